package life_test

import (
	"math"
	"slices"
	"testing"

	"moorsom/api"
	"moorsom/life"
)

// A question has all that functions are asked of events.
type question struct {
	l, other          []api.Event
	x                 api.Event
	at                api.Place
	ship, room        int
	day, known, later int
}

// A fault is what is wrong with a question, by the error that is told.
type fault struct {
	e     api.Errno
	spoil func(q *question)
}

// What may be wrong.
func badList() fault  { return fault{api.ErrEvents, func(q *question) { q.l = append(q.l, q.l[0]) }} }
func longList() fault { return fault{api.ErrEvents, func(q *question) { q.l = many(81, 0) }} }
func badOther() fault { return fault{api.ErrEvents, func(q *question) { q.other = many(21, 21) }} }
func badShip() fault  { return fault{api.ErrArg, func(q *question) { q.ship = 1000 }} }
func lowShip() fault  { return fault{api.ErrArg, func(q *question) { q.ship = 0 }} }
func badDay() fault   { return fault{api.ErrDay, func(q *question) { q.day = 100001 }} }
func lowDay() fault   { return fault{api.ErrDay, func(q *question) { q.day = -1 }} }
func badKnown() fault { return fault{api.ErrDay, func(q *question) { q.known = 100001 }} }
func lowKnown() fault { return fault{api.ErrDay, func(q *question) { q.known = -1 }} }
func badLater() fault { return fault{api.ErrDay, func(q *question) { q.later = 100001 }} }
func lowLater() fault { return fault{api.ErrDay, func(q *question) { q.later = -1 }} }
func noShip() fault   { return fault{api.ErrShip, func(q *question) { q.ship = 8 }} }
func badRoom() fault  { return fault{api.ErrWhich, func(q *question) { q.room = 77 }} }
func lowRoom() fault  { return fault{api.ErrWhich, func(q *question) { q.room = -1 }} }
func noPlace() fault  { return fault{api.ErrNone, func(q *question) { q.at = place(5, 5) }} }
func badPlace() fault { return fault{api.ErrNone, func(q *question) { q.at = place(-1, 5) }} }
func badEvent() fault { return fault{api.ErrEvent, func(q *question) { q.x.Known = -1 }} }
func twoEvents() fault {
	return fault{api.ErrSame, func(q *question) {
		q.x = put(flag(9, 9), place(0, 1))
		q.other = []api.Event{q.x}
	}}
}

// A call is a function with what may be wrong, in the order of the errors.
type call struct {
	name   string
	faults []fault
	// ask returns the error, and whether all other results are zero values.
	ask func(q question) (api.Errno, bool)
}

// ofShip has the faults of what is asked of a ship on a day.
func ofShip(more ...fault) []fault {
	l := []fault{badList(), longList(), badShip(), lowShip(), badDay(), lowDay(), badKnown(), lowKnown()}
	return append(l, more...)
}

// calls are all functions that take a list of events.
func calls() []call {
	return append(listCalls(), []call{
		{"State", ofShip(noShip()), func(q question) (api.Errno, bool) {
			s, e := life.State(q.l, q.ship, q.day, q.known)
			return e, same(s, api.State{})
		}},
		{"Rests", ofShip(noShip()), func(q question) (api.Errno, bool) {
			l, e := life.Rests(q.l, q.ship, q.day, q.known)
			return e, len(l) == 0
		}},
		{"Void", ofShip(), func(q question) (api.Errno, bool) {
			l, e := life.Void(q.l, q.ship, q.day, q.known)
			return e, len(l) == 0
		}},
		{"Survey", ofShip(noShip(), badRoom(), lowRoom()), func(q question) (api.Errno, bool) {
			v, e := life.Survey(q.l, q.ship, q.room, q.day, q.known)
			return e, same(v, api.Survey{})
		}},
		{"Days", []fault{badList(), longList(), badShip(), lowShip(), badKnown(), lowKnown()}, func(q question) (api.Errno, bool) {
			l, e := life.Days(q.l, q.ship, q.known)
			return e, len(l) == 0
		}},
		{"Dates", []fault{badList(), longList(), badShip(), lowShip()}, func(q question) (api.Errno, bool) {
			l, e := life.Dates(q.l, q.ship)
			return e, len(l) == 0
		}},
		{"Changed", ofShip(badLater(), lowLater(), noShip()), func(q question) (api.Errno, bool) {
			l, e := life.Changed(q.l, q.ship, q.day, q.known, q.later)
			return e, len(l) == 0
		}},
	}...)
}

// listCalls are those that take no ship.
func listCalls() []call {
	return []call{
		{"Check", []fault{badList(), longList()}, func(q question) (api.Errno, bool) { return life.Check(q.l), true }},
		{"Add", []fault{badList(), longList(), badEvent(), twoEvents()}, func(q question) (api.Errno, bool) {
			l, e := life.Add(q.l, q.x)
			return e, len(l) == 0
		}},
		{"Join", []fault{badList(), longList(), badOther(), twoEvents()}, func(q question) (api.Errno, bool) {
			l, e := life.Join(q.l, q.other)
			return e, len(l) == 0
		}},
		{"Join, turned", []fault{badList(), longList(), badOther(), twoEvents()}, func(q question) (api.Errno, bool) {
			l, e := life.Join(q.other, q.l)
			return e, len(l) == 0
		}},
		{"Without", []fault{badList(), longList(), noPlace(), badPlace()}, func(q question) (api.Errno, bool) {
			l, e := life.Without(q.l, q.at)
			return e, len(l) == 0
		}},
		{"Standing", []fault{badList(), longList(), badKnown(), lowKnown()}, func(q question) (api.Errno, bool) {
			l, e := life.Standing(q.l, q.known)
			return e, len(l) == 0
		}},
		{"Withdrawn", []fault{badList(), longList(), badKnown(), lowKnown()}, func(q question) (api.Errno, bool) {
			l, e := life.Withdrawn(q.l, q.known)
			return e, len(l) == 0
		}},
		{"Ships", []fault{badList(), longList(), badDay(), lowDay(), badKnown(), lowKnown()}, func(q question) (api.Errno, bool) {
			l, e := life.Ships(q.l, q.day, q.known)
			return e, len(l) == 0
		}},
		{"Touched", []fault{badList(), longList(), badKnown(), lowKnown(), noPlace(), badPlace()}, func(q question) (api.Errno, bool) {
			l, e := life.Touched(q.l, q.at, q.known)
			return e, len(l) == 0
		}},
	}
}

// exampleQuestion is one of which all functions tell something without an error.
func exampleQuestion() question {
	return question{
		l: example(), other: []api.Event{put(flag(9, 9), place(4, 4))}, x: put(flag(9, 9), place(4, 4)), at: place(0, 2),
		ship: 7, room: 5, day: 30, known: 45, later: 40,
	}
}

// TestOrderOfErrors is R1 and R2: whichever faults there are together, the
// error is that of the first one, and nothing is beside it.
func TestOrderOfErrors(t *testing.T) {
	for _, c := range calls() {
		if e, _ := c.ask(exampleQuestion()); e != api.OK {
			t.Error(c.name, e)
		}
		for set := 1; set < 1<<len(c.faults); set++ {
			q, want := exampleQuestion(), api.OK
			for i, f := range slices.Backward(c.faults) {
				if set&(1<<i) != 0 {
					f.spoil(&q)
					want = f.e
				}
			}
			if e, zero := c.ask(q); e != want || !zero {
				t.Error(c.name, set, e, want, zero)
			}
		}
	}
}

// TestInvalidLists: all functions refuse all lists that are not valid.
func TestInvalidLists(t *testing.T) {
	for _, bad := range invalidLists() {
		q := exampleQuestion()
		q.l = bad
		for _, c := range calls() {
			if e, zero := c.ask(q); e != api.ErrEvents || !zero {
				t.Error(c.name, bad, e)
			}
		}
	}
}

// TestDayBounds: the first and the last day may be asked of.
func TestDayBounds(t *testing.T) {
	l := list(build(0, 1, 9), told(100000, flag(100000, 2)))
	for _, c := range []struct{ day, known, flag int }{{0, 0, 1}, {100000, 99999, 1}, {99999, 100000, 1}, {100000, 100000, 2}} {
		if s, e := life.State(l, 7, c.day, c.known); e != api.OK || s.Flag != c.flag {
			t.Error(c, s, e)
		}
	}
	for _, ship := range []int{1, 999} {
		if s, e := life.State([]api.Event{of(ship, l[0])}, ship, 0, 0); e != api.OK || s.Ship != ship {
			t.Error(s, e)
		}
	}
}

// TestNilAndEmpty is R3.
func TestNilAndEmpty(t *testing.T) {
	for _, l := range [][]api.Event{nil, {}} {
		q := question{l: l, other: l, x: put(flag(1, 1), place(0, 0)), ship: 7}
		want := map[string]api.Errno{"State": api.ErrShip, "Rests": api.ErrShip, "Survey": api.ErrShip, "Changed": api.ErrShip, "Without": api.ErrNone, "Touched": api.ErrNone}
		for _, c := range calls() {
			if e, zero := c.ask(q); e != want[c.name] || zero == (c.name == "Add") {
				t.Error(c.name, e, zero)
			}
		}
	}
	a, b := put(flag(1, 1), place(0, 0)), put(flag(1, 1), place(0, 0))
	b.Space.Stations, b.Space.Waters = []int{}, []int{}
	mustHold(t, life.CheckEvent(b))
	if l, e := life.Add([]api.Event{a}, b); e != api.OK || len(l) != 1 {
		t.Error(l, e)
	}
	if l, e := life.Join([]api.Event{b}, []api.Event{a}); e != api.OK || len(l) != 1 {
		t.Error(l, e)
	}
}

// spoilInts writes into all the memory of a list, also behind its end.
func spoilInts(l []int) {
	l = l[:cap(l)]
	for i := range l {
		l[i] = -7
	}
}

func spoilEvents(l []api.Event) {
	for _, x := range l[:cap(l)] {
		spoilInts(x.Space.Stations)
		spoilInts(x.Space.Waters)
	}
	clear(l[:cap(l)])
}

func spoilSurvey(v api.Survey) {
	spoilInts(v.Space.Stations)
	spoilInts(v.Space.Waters)
	clear(v.Readings[:cap(v.Readings)])
	clear(v.Compares[:cap(v.Compares)])
}

// rich is a list of a ship with readings of all her spaces, and of tapes.
func rich() []api.Event {
	return list(build(1, 1, 9), room(2, 3), room(2, 4), read(3, 9, 0, 0), read(3, 3, 0, 0), read(3, 4, 0, 0), read(3, 9, 1, 1), read(3, 3, 1, 1), read(3, 4, 1, 1), tape(4, 0, 9, 0, 5), tape(4, 0, 9, 1, 6))
}

// TestResultsAreNew is R4: what is done to a result changes nothing else.
func TestResultsAreNew(t *testing.T) {
	l, x := rich(), put(room(5, 8), place(1, 0))
	kept := text(l) + text(x)
	added, e1 := life.Add(l, x)
	again, e2 := life.Add(l, l[1])
	joined, e3 := life.Join(l, []api.Event{l[1], x})
	left, e4 := life.Without(l, place(0, 0))
	mustHold(t, max(e1, e2, e3, e4))
	for _, result := range [][]api.Event{added, again, joined, left} {
		spoilEvents(result)
	}
	s, e1 := life.State(l, 7, 9, 9)
	v, e2 := life.Survey(l, 7, 3, 9, 9)
	h, e3 := life.Survey(l, 7, 9, 9, 9)
	mustHold(t, max(e1, e2, e3))
	spoilSurvey(v)
	spoilSurvey(h)
	want := text(s.Cells[1])
	spoilSurvey(s.Hull)
	spoilSurvey(s.Cells[0].Survey)
	if text(s.Cells[1]) != want {
		t.Error("surveys of State share memory", s)
	}
	spoilSurvey(s.Cells[1].Survey)
	clear(s.Cells)
	if text(l)+text(x) != kept {
		t.Error("results share memory with arguments", l, x)
	}
	r, _ := life.Write(x)
	y, e := life.Read(r)
	mustHold(t, e)
	spoilInts(y.Space.Stations)
	if !slices.Equal(y.Space.Waters, x.Space.Waters) {
		t.Error("lists of Read share memory", y)
	}
}

// TestListsOfOneSpace: a space whose stations and waters are one list in an
// argument has two in a result.
func TestListsOfOneSpace(t *testing.T) {
	l, x := rich(), put(room(5, 8), place(1, 0))
	l[0].Space.Waters, x.Space.Waters = l[0].Space.Stations, x.Space.Stations
	added, e1 := life.Add(l, x)
	left, e2 := life.Without(l, place(0, 5))
	s, e3 := life.State(l, 7, 9, 9)
	mustHold(t, max(e1, e2, e3))
	for _, space := range []api.Space{added[0].Space, added[len(added)-1].Space, left[0].Space, s.Hull.Space} {
		spoilInts(space.Stations)
		if !slices.Equal(space.Waters, []int{0, 1000}) {
			t.Error("lists share memory", space)
		}
	}
}

// TestArgumentsStay is R4: no function changes what it is handed, nor what
// stands behind its end.
func TestArgumentsStay(t *testing.T) {
	lists(t, 61, 60, func(m maker, l []api.Event) {
		if len(l) == 0 {
			return
		}
		roomy := slices.Grow(slices.Clone(l), 5)
		behind := roomy[:cap(roomy)][len(roomy):]
		q := question{l: roomy, other: roomy[:len(l)/2], x: put(room(1, 5), place(0, 9000)), at: l[0].At, ship: 7, room: 1, day: m.Intn(m.top), known: m.top, later: 1}
		kept := text(q.l) + text(q.other) + text(q.x)
		for _, c := range calls() {
			c.ask(q)
		}
		s, _ := life.State(q.l, 7, m.top, m.top)
		before := text(s)
		life.Rooms(s)
		life.Write(q.x)
		if text(q.l)+text(q.other)+text(q.x) != kept || text(s) != before || slices.ContainsFunc(behind, func(x api.Event) bool { return !same(x, api.Event{}) }) {
			t.Fatal(q.l, kept)
		}
	})
}

// any makes any number, most often one that is near a bound.
func (m maker) any() int {
	edges := []int{-1, 0, 1, 2, 3, 4, 5, 6, 7, 8, 9, 10, 20, 80, 99, 999, 1000, 1001, 9999, 10000, 20000, 90000, 99999, 100000, 100001, math.MaxInt, math.MinInt}
	return edges[m.Intn(len(edges))]
}

// anyEvent makes events that are hardly ever valid.
func (m maker) anyEvent() api.Event {
	x := api.Event{
		At: place(m.any(), m.any()), Kind: m.any(), Ship: m.any(), Day: m.any(), Known: m.any(), Room: m.any(), Num: m.any(), Opening: m.any(), Crew: m.any(),
		Of: place(m.any(), m.any()),
	}
	x.Space = api.Space{Id: m.any(), Source: m.any(), Stations: []int{m.any(), m.any()}, Waters: []int{m.any(), m.any()}}
	x.Reading = api.Reading{Source: m.any(), Station: m.any(), Value: m.any(), Tolerance: m.any(), Tape: m.any()}
	x.Compare = api.Compare{Source: m.any(), Tape: m.any(), From: m.any(), To: m.any(), Lo: m.any(), Hi: m.any()}
	return x
}

// slightly changes an event, so that it may be valid or not.
func (m maker) slightly(x api.Event) api.Event {
	parts := append(common(), named()...)
	parts[m.Intn(len(parts))].set(&x, min(m.any(), 100))
	return x
}

// TestAnyArguments is P1: no arguments make a function panic; whatever they
// are, nothing is beside an error.
func TestAnyArguments(t *testing.T) {
	errors := map[api.Errno]int{}
	lists(t, 62, 2500, func(m maker, l []api.Event) {
		q := question{l: l, other: m.some(l), x: m.anyEvent(), at: place(m.any(), m.any()), ship: m.any(), room: m.any(), day: m.any(), known: m.any(), later: m.any()}
		if len(l) > 0 && m.Intn(2) == 0 {
			i := m.Intn(len(l))
			q.x = m.slightly(l[i])
			if m.Intn(3) == 0 {
				q.l = slices.Clone(l)
				q.l[i] = q.x
			}
		}
		if m.Intn(2) == 0 {
			q.ship, q.day, q.known, q.later = 7, m.Intn(m.top), m.Intn(m.top), m.Intn(m.top)
		}
		for _, c := range calls() {
			e, zero := c.ask(q)
			if e != api.OK && !zero {
				t.Fatal(c.name, q, e)
			}
			errors[e]++
		}
		life.CheckEvent(q.x)
		if r, e := life.Write(q.x); e != life.CheckEvent(q.x) || e != api.OK && r != (api.Record{}) {
			t.Fatal(q.x, r, e)
		}
		life.Read(api.Record{At: q.at, Kind: m.any(), Ship: m.any(), Day: m.any(), Known: m.any(), Of: q.at, Text: text([]int{m.any(), m.any()})})
	})
	for _, e := range []api.Errno{api.OK, api.ErrArg, api.ErrDay, api.ErrEvent, api.ErrEvents, api.ErrShip, api.ErrWhich, api.ErrNone, api.ErrSame} {
		if errors[e] < 20 {
			t.Error("too seldom", e, errors[e])
		}
	}
}
