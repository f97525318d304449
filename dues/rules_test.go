package dues_test

import (
	"math"
	"slices"
	"testing"

	"moorsom/api"
	"moorsom/dues"
)

// A question has all that functions are asked of files.
type question struct {
	f          api.Files
	p          api.Passage
	c          api.Cert
	at         api.Place
	l          []api.Post
	ship, id   int
	day, known int
}

// A fault is what is wrong with a question, by the error that is told.
type fault struct {
	e     api.Errno
	spoil func(q *question)
}

// What may be wrong.
func badEvents() fault {
	return fault{api.ErrFiles, func(q *question) { q.f.Events = append(slices.Clone(q.f.Events), q.f.Events[0]) }}
}
func badLaws() fault { return fault{api.ErrFiles, func(q *question) { q.f.Laws = manyLaws(5) }} }
func badPassages() fault {
	return fault{api.ErrFiles, func(q *question) { q.f.Passages = manyPassages(13) }}
}
func badPassage() fault  { return fault{api.ErrPassage, func(q *question) { q.p.Rate = -1 }} }
func twoPassages() fault { return fault{api.ErrPassage, func(q *question) { q.p.Id = 2 }} }

// full: there are as many passages as may be, 1 and 2 among them.
func full() fault {
	return fault{api.ErrLong, func(q *question) {
		if len(q.f.Passages) <= 12 {
			q.f.Passages = manyPassages(12)
		}
	}}
}
func badShip() fault { return fault{api.ErrArg, func(q *question) { q.ship, q.c.Ship = 1000, 1000 }} }
func lowShip() fault { return fault{api.ErrArg, func(q *question) { q.ship, q.c.Ship = 0, 0 }} }
func badDay() fault  { return fault{api.ErrDay, func(q *question) { q.day = 100001 }} }
func lowDay() fault  { return fault{api.ErrDay, func(q *question) { q.day = -1 }} }
func badKnown() fault {
	return fault{api.ErrDay, func(q *question) { q.known = 100001 }}
}
func lowKnown() fault { return fault{api.ErrDay, func(q *question) { q.known = -1 }} }
func noPassage() fault {
	return fault{api.ErrNone, func(q *question) { q.id = 3 }}
}
func lowPassage() fault { return fault{api.ErrNone, func(q *question) { q.id = math.MinInt }} }
func noPlace() fault    { return fault{api.ErrNone, func(q *question) { q.at = place(5, 5) }} }
func badPlace() fault   { return fault{api.ErrNone, func(q *question) { q.at = place(-1, 5) }} }
func noCert() fault     { return fault{api.ErrCert, func(q *question) { q.c.Flag = 9 }} }
func badCert() fault    { return fault{api.ErrCert, func(q *question) { q.c.From = -1 }} }
func noLedger() fault {
	return fault{api.ErrPost, func(q *question) { q.l = []api.Post{{Known: 40, Passage: 1, Amount: 53}} }}
}
func noShip() fault { return fault{api.ErrShip, func(q *question) { q.ship = 8 }} }
func noLaw() fault {
	return fault{api.ErrRule, func(q *question) {
		if len(q.f.Laws) == 1 {
			q.f.Laws = nil
		}
	}}
}

// A call is a function with what may be wrong, in the order of the errors.
type call struct {
	name   string
	faults []fault
	// ask returns the error, and whether all other results are zero values.
	ask func(q question) (api.Errno, bool)
}

// ofFiles has the faults of files, and others behind them.
func ofFiles(more ...fault) []fault {
	return append([]fault{badEvents(), badLaws(), badPassages()}, more...)
}

// ofShip has those of what is asked of a ship, as known on a day.
func ofShip(more ...fault) []fault {
	return append(ofFiles(badShip(), lowShip(), badKnown(), lowKnown()), more...)
}

// ofDay has those of what is asked of a ship on a day.
func ofDay(more ...fault) []fault {
	return append(ofFiles(badShip(), lowShip(), badDay(), lowDay(), badKnown(), lowKnown()), more...)
}

func calls() []call { return slices.Concat(checkCalls(), certCalls(), postCalls()) }

func checkCalls() []call {
	return []call{
		{"CheckPassage", []fault{badPassage()}, func(q question) (api.Errno, bool) { return dues.CheckPassage(q.p), true }},
		{"Check", ofFiles(), func(q question) (api.Errno, bool) { return dues.Check(q.f), true }},
		{"Add", ofFiles(badPassage(), twoPassages(), full()), func(q question) (api.Errno, bool) {
			f, e := dues.Add(q.f, q.p)
			return e, same(f, api.Files{})
		}},
		{"Figures", ofDay(noShip(), noLaw()), func(q question) (api.Errno, bool) {
			x, e := dues.Figures(q.f, q.ship, q.day, q.known)
			return e, x == api.Figures{}
		}},
		{"Lineage", ofDay(noShip(), noLaw()), func(q question) (api.Errno, bool) {
			l, e := dues.Lineage(q.f, q.ship, q.day, q.known)
			return e, len(l) == 0
		}},
	}
}

func certCalls() []call {
	return []call{
		{"Days", ofShip(), func(q question) (api.Errno, bool) {
			l, e := dues.Days(q.f, q.ship, q.known)
			return e, len(l) == 0
		}},
		{"Certs", ofShip(), func(q question) (api.Errno, bool) {
			l, e := dues.Certs(q.f, q.ship, q.known)
			return e, len(l) == 0
		}},
		{"CheckCert", ofShip(noCert(), badCert()), func(q question) (api.Errno, bool) {
			return dues.CheckCert(q.f, q.known, q.c), true
		}},
		{"Dates", ofFiles(badShip(), lowShip()), func(q question) (api.Errno, bool) {
			l, e := dues.Dates(q.f, q.ship)
			return e, len(l) == 0
		}},
		{"Issued", ofShip(), func(q question) (api.Errno, bool) {
			more, gone, e := dues.Issued(q.f, q.ship, q.known)
			return e, len(more)+len(gone) == 0
		}},
		{"Moved", ofShip(noPlace(), badPlace()), func(q question) (api.Errno, bool) {
			l, e := dues.Moved(q.f, q.ship, q.known, q.at)
			return e, len(l) == 0
		}},
	}
}

func postCalls() []call {
	return []call{
		{"Due", ofFiles(badKnown(), lowKnown(), noPassage(), lowPassage()), func(q question) (api.Errno, bool) {
			n, e := dues.Due(q.f, q.id, q.known)
			return e, n == 0
		}},
		{"Posts", ofFiles(badKnown(), lowKnown(), noPassage(), lowPassage()), func(q question) (api.Errno, bool) {
			l, e := dues.Posts(q.f, q.id, q.known)
			return e, len(l) == 0
		}},
		{"Ledger", ofShip(), func(q question) (api.Errno, bool) {
			l, e := dues.Ledger(q.f, q.ship, q.known)
			return e, len(l) == 0
		}},
		{"CheckLedger", ofShip(noLedger()), func(q question) (api.Errno, bool) {
			return dues.CheckLedger(q.f, q.ship, q.known, q.l), true
		}},
		{"Balance", ofShip(), func(q question) (api.Errno, bool) {
			n, e := dues.Balance(q.f, q.ship, q.known)
			return e, n == 0
		}},
		{"Refunds", ofShip(), func(q question) (api.Errno, bool) {
			n, e := dues.Refunds(q.f, q.ship, q.known)
			return e, n == 0
		}},
		{"MovedDues", ofFiles(badKnown(), lowKnown(), noPlace(), badPlace()), func(q question) (api.Errno, bool) {
			l, e := dues.MovedDues(q.f, q.known, q.at)
			return e, len(l) == 0
		}},
	}
}

// documentQuestion is one of which all functions tell something without an
// error.
func documentQuestion() question {
	f := document()
	f.Passages = append(f.Passages, api.Passage{Id: 2, Ship: 8})
	return question{
		f: f, p: api.Passage{Id: 50, Ship: 7, Day: 5, Known: 6, Rate: 7}, c: cert(20, 100000, figures(37, 510, 18, 255)),
		at: place(7, 2), l: []api.Post{{Known: 40, Passage: 1, Amount: 54}}, ship: 7, id: 1, day: 22, known: 45,
	}
}

// TestOrderOfErrors is R1 and R2: whichever faults there are together, the
// error is that of the first one, and nothing is beside it.
func TestOrderOfErrors(t *testing.T) {
	for _, c := range calls() {
		if e, _ := c.ask(documentQuestion()); e != api.OK {
			t.Error(c.name, e)
		}
		for set := 1; set < 1<<len(c.faults); set++ {
			q, want := documentQuestion(), api.OK
			for i, f := range slices.Backward(c.faults) {
				if set&(1<<i) != 0 {
					f.spoil(&q)
					want = f.e
				}
			}
			if e, zero := c.ask(q); e != want || !zero {
				t.Error(c.name, set, e, want, zero)
			}
		}
	}
}

// TestInvalidFiles: all functions refuse all files that are not valid.
func TestInvalidFiles(t *testing.T) {
	for name, f := range invalidFiles() {
		q := documentQuestion()
		q.f = f
		for _, c := range calls()[1:] {
			if e, zero := c.ask(q); e != api.ErrFiles || !zero {
				t.Error(name, c.name, e)
			}
		}
	}
}

// TestBounds: the first and the last day, and the first and the last ship, may
// be asked of.
func TestBounds(t *testing.T) {
	for _, n := range []int{0, 100000} {
		for _, ship := range []int{1, 999} {
			q := documentQuestion()
			q.ship, q.c.Ship, q.day, q.known, q.l = ship, ship, n, n, nil
			want := map[string]api.Errno{"Figures": api.ErrShip, "Lineage": api.ErrShip, "CheckCert": api.ErrCert}
			for _, c := range calls() {
				if e, _ := c.ask(q); e != want[c.name] {
					t.Error(n, ship, c.name, e)
				}
			}
		}
	}
}

// TestNilAndEmpty is R3: empty files tell nothing, and so do nil ones.
func TestNilAndEmpty(t *testing.T) {
	for _, f := range []api.Files{{}, {Events: []api.Event{}, Laws: []api.Law{}, Passages: []api.Passage{}}} {
		q := documentQuestion()
		q.f = f
		want := map[string]api.Errno{
			"Figures": api.ErrShip, "Lineage": api.ErrShip, "CheckCert": api.ErrCert, "Moved": api.ErrNone, "MovedDues": api.ErrNone,
			"Due": api.ErrNone, "Posts": api.ErrNone, "CheckLedger": api.ErrPost,
		}
		for _, c := range calls() {
			if e, zero := c.ask(q); e != want[c.name] || zero == (c.name == "Add") {
				t.Error(c.name, e, zero)
			}
		}
		for _, l := range [][]api.Post{nil, {}} {
			mustHold(t, dues.CheckLedger(f, 7, 45, l))
		}
	}
}

// spoilFiles writes into all the memory of files, also behind the ends of
// lists.
func spoilFiles(f api.Files) {
	for _, x := range f.Events[:cap(f.Events)] {
		spoil(x.Space.Stations)
		spoil(x.Space.Waters)
	}
	for _, l := range f.Laws[:cap(f.Laws)] {
		for _, v := range l.Code.Versions[:cap(l.Code.Versions)] {
			for _, p := range v.Puts[:cap(v.Puts)] {
				spoil(p.Tests)
			}
			spoil(v.Puts)
			for _, lines := range v.Lines {
				for _, pieces := range lines {
					spoil(pieces)
				}
			}
		}
		spoil(l.Code.Versions)
	}
	spoil(f.Events)
	spoil(f.Laws)
	spoil(f.Passages)
}

// spoil clears all the memory of a list.
func spoil[T any](l []T) { clear(l[:cap(l)]) }

// TestResultsAreNew is R4: what is done to a result changes nothing else.
func TestResultsAreNew(t *testing.T) {
	q := documentQuestion()
	q.f.Events = append(q.f.Events, put(of(8, tape(1, 2, 3, 4, 5)), place(8, 0)))
	q.f.Laws = append(example().Laws, simple(3))
	q.f.Passages = slices.Grow(q.f.Passages, 5)
	kept := text(q.f)
	more, e1 := dues.Add(q.f, q.p)
	again, e2 := dues.Add(more, api.Passage{Id: 3, Ship: 1})
	mustHold(t, max(e1, e2))
	want := text(more)
	spoilFiles(again)
	if text(more) != want {
		t.Error("what Add returns shares memory with what it is handed", more)
	}
	spoilFiles(more)
	if text(q.f) != kept {
		t.Error("what Add returns shares memory with what it is handed", q.f)
	}
}

// TestListsOfOneArgument: lists that are one in an argument are two in a
// result.
func TestListsOfOneArgument(t *testing.T) {
	f := document()
	f.Events[0].Space.Waters = f.Events[0].Space.Stations
	tests := []api.Test{{Of: api.OfKind, How: api.Equal, Num: 3}}
	puts := []api.Put{{Group: 1, Tests: tests}, {Group: 2, Tests: tests}}
	pieces := []api.Piece{{Rate: 1}}
	v := api.Version{Puts: puts}
	v.Lines[0][0], v.Lines[0][4], v.Lines[1][0] = pieces, pieces, pieces
	later := v
	later.From = 9
	c := api.Code{Name: "one", Versions: []api.Version{v, later}}
	f.Laws = []api.Law{{Flag: 1, Code: c}, {Flag: 2, Code: c}}
	want := text(f.Laws)
	more, e := dues.Add(f, api.Passage{Id: 2, Ship: 1})
	mustHold(t, e)
	spoil(more.Events[0].Space.Waters)
	spoil(more.Laws[0].Code.Versions[0].Puts[0].Tests)
	spoil(more.Laws[0].Code.Versions[0].Lines[0][0])
	more.Laws[0].Code.Versions[1].Puts[1].Group = 4
	first, second := more.Laws[0].Code, more.Laws[1].Code
	if !slices.Equal(more.Events[0].Space.Stations, []int{0, 1000}) || !same(first.Versions[0].Puts[1].Tests, tests) || first.Versions[0].Puts[1].Group != 2 ||
		!same(first.Versions[0].Lines[0][4], pieces) || !same(first.Versions[0].Lines[1][0], pieces) || !same(first.Versions[1].Lines, later.Lines) || !same(second, c) {
		t.Error("lists share memory", more)
	}
	if text(f.Laws) != want {
		t.Error("the argument is another one", f.Laws)
	}
}

// TestArgumentsStay is R4: no function changes what it is handed, nor what
// stands behind the ends of lists.
func TestArgumentsStay(t *testing.T) {
	lists(t, 91, 60, func(m maker, f api.Files) {
		f.Events = slices.Grow(slices.Clone(f.Events), 3)
		f.Laws = slices.Grow(slices.Clone(f.Laws), 3)
		f.Passages = slices.Grow(slices.Clone(f.Passages), 3)
		ledger, e := dues.Ledger(f, 7, m.top)
		mustHold(t, e, f)
		q := question{f: f, p: api.Passage{Id: 99, Ship: 7}, c: api.Cert{Ship: 7}, at: f.Events[0].At, l: ledger, ship: 7, id: f.Passages[0].Id, day: m.day(), known: m.top}
		kept := text(q)
		for _, c := range calls() {
			c.ask(q)
		}
		events, laws, passages := f.Events[len(f.Events):cap(f.Events)], f.Laws[len(f.Laws):cap(f.Laws)], f.Passages[len(f.Passages):cap(f.Passages)]
		if text(q) != kept || !same(events, make([]api.Event, len(events))) || !same(laws, make([]api.Law, len(laws))) || !same(passages, make([]api.Passage, len(passages))) {
			t.Fatal(q, kept)
		}
	})
}

// any makes any number, most often one that is near a bound.
func (m maker) any() int {
	edges := []int{-1, 0, 1, 2, 3, 4, 5, 6, 7, 8, 9, 10, 12, 13, 80, 99, 999, 1000, 10000, 10001, 90000, 99999, 100000, 100001, math.MaxInt, math.MinInt}
	return edges[m.Intn(len(edges))]
}

// spoiled are files of which something is any number.
func (m maker) spoiled(f api.Files) api.Files {
	f.Events, f.Laws, f.Passages = slices.Clone(f.Events), slices.Clone(f.Laws), slices.Clone(f.Passages)
	switch m.Intn(4) {
	case 0:
		f.Events[m.Intn(len(f.Events))].Day = m.any()
	case 1:
		f.Laws[m.Intn(len(f.Laws))].Flag = m.any()
	case 2:
		f.Laws[m.Intn(len(f.Laws))].Code.Versions = nil
	case 3:
		i := m.Intn(len(f.Passages))
		all := parts()
		all[m.Intn(len(all))].set(&f.Passages[i], m.any())
	}
	return f
}

// TestAnyArguments is P1: no arguments make a function panic; whatever they
// are, nothing is beside an error, and the same is told again.
func TestAnyArguments(t *testing.T) {
	errors := map[api.Errno]int{}
	lists(t, 92, 800, func(m maker, f api.Files) {
		q := question{
			f: f, p: api.Passage{Id: m.any(), Ship: m.any(), Day: m.any(), Known: m.any(), Rate: m.any()}, c: api.Cert{Ship: m.any(), Flag: m.any(), From: m.any(), To: m.any()},
			at: place(m.any(), m.any()), l: []api.Post{{Known: m.any(), Passage: m.any(), Amount: m.any()}}, ship: m.any(), id: m.any(), day: m.any(), known: m.any(),
		}
		if m.Intn(3) == 0 {
			q.f = m.spoiled(f)
		}
		if m.Intn(2) == 0 {
			q.ship, q.c.Ship, q.day, q.known, q.id, q.at = 7, 7, m.day(), m.day(), f.Passages[0].Id, f.Events[0].At
		}
		for _, c := range calls() {
			e, zero := c.ask(q)
			if e != api.OK && !zero {
				t.Fatal(c.name, q, e)
			}
			if again, isZero := c.ask(q); again != e || isZero != zero {
				t.Fatal(c.name, q, e, again)
			}
			errors[e]++
		}
	})
	for _, e := range []api.Errno{api.OK, api.ErrArg, api.ErrDay, api.ErrNone, api.ErrShip, api.ErrPassage, api.ErrFiles, api.ErrRule, api.ErrCert, api.ErrPost} {
		if errors[e] < 20 {
			t.Error("too seldom", e, errors[e])
		}
	}
}
