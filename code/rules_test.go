package code_test

import (
	"math"
	"slices"
	"testing"

	"moorsom/api"
	"moorsom/code"
)

// A question has all that functions are asked of a code.
type question struct {
	c                            api.Code
	version, other, day, formula int
	group, litres                int
	all                          [5]int
	l                            []api.Room
	r                            api.Room
	ends                         [2]api.End
	cases                        []api.Case
}

// A fault is what is wrong with a question, by the error that is told.
type fault struct {
	e     api.Errno
	spoil func(q *question)
}

// What may be wrong.
func badCode() fault    { return fault{api.ErrCode, func(q *question) { q.c.Name = "" }} }
func badVersion() fault { return fault{api.ErrVersion, func(q *question) { q.version = 2 }} }
func lowVersion() fault { return fault{api.ErrVersion, func(q *question) { q.version = -1 }} }
func badOther() fault   { return fault{api.ErrVersion, func(q *question) { q.other = 2 }} }
func lowOther() fault   { return fault{api.ErrVersion, func(q *question) { q.other = -1 }} }
func badDay() fault     { return fault{api.ErrDay, func(q *question) { q.day = 100001 }} }
func lowDay() fault     { return fault{api.ErrDay, func(q *question) { q.day = -1 }} }
func badFormula() fault { return fault{api.ErrArg, func(q *question) { q.formula = 2 }} }
func lowFormula() fault { return fault{api.ErrArg, func(q *question) { q.formula = -1 }} }
func badGroup() fault   { return fault{api.ErrArg, func(q *question) { q.group = 6 }} }
func lowGroup() fault   { return fault{api.ErrArg, func(q *question) { q.group = 0 }} }
func badLitres() fault {
	return fault{api.ErrArg, func(q *question) { q.litres, q.all[4] = 20000000001, 20000000001 }}
}
func lowLitres() fault { return fault{api.ErrArg, func(q *question) { q.litres, q.all[2] = -1, -1 }} }

// noForce makes all versions be in force only later, in a code that stays as valid as it is.
func noForce() fault {
	return fault{api.ErrForce, func(q *question) {
		for i := range q.c.Versions {
			q.c.Versions[i].From += 60
		}
	}}
}
func badRooms() fault {
	return fault{api.ErrRoom, func(q *question) { q.l, q.r = many(21), api.Room{} }}
}
func badRoom() fault {
	return fault{api.ErrRoom, func(q *question) { q.l[1].Litres.Lo, q.r.Kind = 61, 10 }}
}
func badEnds() fault  { return fault{api.ErrEnds, func(q *question) { q.ends[1].Tonnage-- }} }
func badCases() fault { return fault{api.ErrCase, func(q *question) { q.cases = q.cases[1:] }} }

// A call is a function with what may be wrong, in the order of the errors.
type call struct {
	name   string
	faults []fault
	// ask returns the error, and whether all other results are zero values.
	ask func(q question) (api.Errno, bool)
}

// onDay has the faults of what is asked of rooms on a day.
func onDay(more ...fault) []fault {
	l := []fault{badCode(), badDay(), lowDay(), badFormula(), lowFormula(), noForce(), badRooms(), badRoom()}
	return append(l, more...)
}

// calls are all functions that take a code, but Print and Amend.
func calls() []call {
	return append(versionCalls(), []call{
		{"Judge", onDay(), func(q question) (api.Errno, bool) {
			r, e := code.Judge(q.c, q.day, q.formula, q.l)
			return e, r == api.Range{}
		}},
		{"Ends", onDay(), func(q question) (api.Errno, bool) {
			low, high, e := code.Ends(q.c, q.day, q.formula, q.l)
			return e, low == api.End{} && high == api.End{}
		}},
		{"CheckEnds", onDay(badEnds()), func(q question) (api.Errno, bool) {
			return code.CheckEnds(q.c, q.day, q.formula, q.l, q.ends), true
		}},
		{"Cases", onDay(), func(q question) (api.Errno, bool) {
			l, e := code.Cases(q.c, q.day, q.formula, q.l)
			return e, len(l) == 0
		}},
		{"CheckCases", onDay(badCases()), func(q question) (api.Errno, bool) {
			r, e := code.CheckCases(q.c, q.day, q.formula, q.l, q.cases)
			return e, r == api.Range{}
		}},
		{"Opens", onDay(), func(q question) (api.Errno, bool) {
			l, e := code.Opens(q.c, q.day, q.formula, q.l)
			return e, len(l) == 0
		}},
		{"Rests", onDay(), func(q question) (api.Errno, bool) {
			l, e := code.Rests(q.c, q.day, q.formula, q.l)
			return e, len(l) == 0
		}},
		{"Days", []fault{badCode(), badFormula(), lowFormula(), badRooms(), badRoom()}, func(q question) (api.Errno, bool) {
			l, e := code.Days(q.c, q.formula, q.l)
			return e, len(l) == 0
		}},
	}...)
}

// versionCalls are those that take a version, or a day alone.
func versionCalls() []call {
	return []call{
		{"Check", []fault{badCode()}, func(q question) (api.Errno, bool) { return code.Check(q.c), true }},
		{"InForce", []fault{badCode(), badDay(), lowDay(), noForce()}, func(q question) (api.Errno, bool) {
			n, e := code.InForce(q.c, q.day)
			return e, n == 0
		}},
		{"Group", []fault{badCode(), badVersion(), lowVersion(), badRooms(), badRoom()}, func(q question) (api.Errno, bool) {
			g, p, e := code.Group(q.c, q.version, q.r)
			return e, g == 0 && p == 0
		}},
		{"Compile", []fault{badCode(), badDay(), lowDay(), noForce(), badRooms(), badRoom()}, func(q question) (api.Errno, bool) {
			p, e := code.Compile(q.c, q.day, q.l)
			return e, same(p, api.Plan{})
		}},
		{"Value", []fault{badCode(), badVersion(), lowVersion(), badFormula(), lowFormula(), badGroup(), lowGroup(), badLitres(), lowLitres()},
			func(q question) (api.Errno, bool) {
				n, e := code.Value(q.c, q.version, q.formula, q.group, q.litres)
				return e, n == 0
			}},
		{"Tonnage", []fault{badCode(), badVersion(), lowVersion(), badFormula(), lowFormula(), badLitres(), lowLitres()},
			func(q question) (api.Errno, bool) {
				n, e := code.Tonnage(q.c, q.version, q.formula, q.all)
				return e, n == 0
			}},
		{"Moved", []fault{badCode(), badVersion(), lowVersion(), badOther(), lowOther(), badRooms(), badRoom()}, func(q question) (api.Errno, bool) {
			l, e := code.Moved(q.c, q.version, q.other, q.l)
			return e, len(l) == 0
		}},
	}
}

// exampleQuestion is one of which all functions tell something.
func exampleQuestion() question {
	q := question{c: example(), other: 1, day: 50, group: 1, litres: 900, all: [5]int{900, 50}, l: exampleRooms(), r: exampleRooms()[1]}
	low, high, _ := code.Ends(q.c, q.day, q.formula, q.l)
	q.ends = [2]api.End{low, high}
	q.cases, _ = code.Cases(q.c, q.day, q.formula, q.l)
	return q
}

// TestOrderOfErrors is R1 and R2: whichever faults there are together, the
// error is that of the first one, and nothing is beside it.
func TestOrderOfErrors(t *testing.T) {
	for _, c := range calls() {
		if e, _ := c.ask(exampleQuestion()); e != api.OK {
			t.Error(c.name, e)
		}
		for set := 1; set < 1<<len(c.faults); set++ {
			q, want := exampleQuestion(), api.OK
			for i, f := range slices.Backward(c.faults) {
				if set&(1<<i) != 0 {
					f.spoil(&q)
					want = f.e
				}
			}
			if e, zero := c.ask(q); e != want || !zero {
				t.Error(c.name, set, e, want, zero)
			}
		}
	}
}

// TestInvalidCodes: all functions refuse all codes that are not valid.
func TestInvalidCodes(t *testing.T) {
	for _, bad := range invalidCodes() {
		q := exampleQuestion()
		q.c = bad
		for _, c := range calls() {
			if e, zero := c.ask(q); e != api.ErrCode || !zero {
				t.Error(c.name, bad, e)
			}
		}
		for _, v := range []api.Version{{From: 100000}, {From: -1}} {
			if c, e := code.Amend(bad, v); e != api.ErrCode || !same(c, api.Code{}) {
				t.Error(bad, c, e)
			}
		}
	}
}

// TestInvalidRooms: all functions refuse all rooms that are not valid.
func TestInvalidRooms(t *testing.T) {
	for _, bad := range invalidRooms() {
		q := exampleQuestion()
		q.l = bad
		for _, c := range calls() {
			asksRooms := slices.ContainsFunc(c.faults, func(f fault) bool { return f.e == api.ErrRoom })
			if e, zero := c.ask(q); asksRooms && c.name != "Group" && (e != api.ErrRoom || !zero) {
				t.Error(c.name, bad, e)
			}
		}
	}
	_, invalid := rooms()
	for _, r := range invalid {
		if g, p, e := code.Group(example(), 0, r); e != api.ErrRoom || g != 0 || p != 0 {
			t.Error(r, g, p, e)
		}
	}
}

// TestNilAndEmpty is R3.
func TestNilAndEmpty(t *testing.T) {
	v := api.Version{Puts: []api.Put{{Tests: []api.Test{}}, {Group: 1, Tests: []api.Test{}}}}
	w := api.Version{Puts: []api.Put{{}, {Group: 1}}}
	for f := range v.Lines {
		for g := range v.Lines[f] {
			v.Lines[f][g] = []api.Piece{}
		}
	}
	for _, l := range [][]api.Room{nil, {}} {
		if !same(answers(oneVersion(v), 3, l), answers(oneVersion(w), 3, nil)) {
			t.Error("other answers")
		}
	}
	a, e1 := code.Print(oneVersion(v))
	b, e2 := code.Print(oneVersion(w))
	if e1 != api.OK || e2 != api.OK || a != b {
		t.Error(a, b, e1, e2)
	}
	x, e1 := code.Amend(oneVersion(v), api.Version{From: 1, Puts: []api.Put{}})
	y, e2 := code.Amend(oneVersion(w), api.Version{From: 1})
	if e1 != api.OK || e2 != api.OK || !same(x, y) {
		t.Error(x, y, e1, e2)
	}
}

// spoilCode writes into all the memory of a code.
func spoilCode(c api.Code) {
	for _, v := range c.Versions[:cap(c.Versions)] {
		for _, p := range v.Puts[:cap(v.Puts)] {
			tests := p.Tests[:cap(p.Tests)]
			for i := range tests {
				tests[i] = api.Test{Of: -7}
			}
		}
		for i := range v.Puts[:cap(v.Puts)] {
			v.Puts[:cap(v.Puts)][i] = api.Put{Group: -7}
		}
		for f := range v.Lines {
			for _, l := range v.Lines[f] {
				for i := range l[:cap(l)] {
					l[:cap(l)][i] = api.Piece{From: -7}
				}
			}
		}
	}
	clear(c.Versions[:cap(c.Versions)])
}

// TestResultsAreNew is R4: what is done to a result changes nothing else.
func TestResultsAreNew(t *testing.T) {
	c, v := example(), example().Versions[0]
	v.From = 200
	amended, e := code.Amend(c, v)
	if e != api.OK {
		t.Fatal(e)
	}
	spoilCode(amended)
	want := example().Versions[0]
	want.From = 200
	if !same(c, example()) || !same(v, want) {
		t.Error("Amend shares memory", c, v)
	}
	parsed, _, _ := code.Parse(exampleText)
	spoilCode(parsed)
	if again, _, e := code.Parse(exampleText); e != api.OK || !same(again, example()) {
		t.Error("Parse shares memory", again)
	}
}

// TestAmendKeepsRoom: a list of versions with room behind its end is not written into.
func TestAmendKeepsRoom(t *testing.T) {
	l := append(from(0), from(5)...)
	c := api.Code{Name: "x", Versions: l[:1]}
	if d, e := code.Amend(c, api.Version{From: 9}); e != api.OK || d.Versions[1].From != 9 || l[1].From != 5 {
		t.Error(d, l, e)
	}
}

// TestListsShareNoMemory is R4 for the lists of one result.
func TestListsShareNoMemory(t *testing.T) {
	v := api.Version{Puts: slices.Insert(byKind(), 0, api.Put{Tests: []api.Test{{Of: api.OfCrew, How: api.More}}})}
	var l []api.Room
	for i := range 20 {
		l = append(l, api.Room{Id: i + 1, Kind: 1 + i%5, Crew: i / 15})
	}
	for changed := range 6 {
		p, e := code.Compile(oneVersion(v), 0, l)
		lists := [][]int{p.Exempt}
		for _, s := range p.Shares {
			lists = append(lists, s.Rooms)
		}
		var before []string
		for _, list := range lists {
			before = append(before, text(list))
		}
		spoiled := lists[changed][:cap(lists[changed])]
		for i := range spoiled {
			spoiled[i] = 77
		}
		for i, list := range lists {
			if e != api.OK || i != changed && text(list) != before[i] {
				t.Error("lists share memory", i, changed)
			}
		}
	}
	c, _, _ := code.Parse(exampleText)
	for i := range c.Versions {
		for j := range c.Versions[i].Puts {
			c.Versions[i].Puts[j].Tests = append(c.Versions[i].Puts[j].Tests, api.Test{})
		}
		for f := range c.Versions[i].Lines {
			for g := range c.Versions[i].Lines[f] {
				c.Versions[i].Lines[f][g] = append(c.Versions[i].Lines[f][g], api.Piece{From: 7})
			}
		}
	}
	if !same(c.Versions[0].Lines[0][0][:2], example().Versions[0].Lines[0][0]) || !same(c.Versions[0].Puts[1].Tests[:2], example().Versions[0].Puts[1].Tests) {
		t.Error("lists of Parse share memory", c)
	}
}

// TestArgumentsStay is R4: no function changes what it is handed.
func TestArgumentsStay(t *testing.T) {
	m := newMaker(60, 20)
	for range 200 {
		h := m.history(6, 9)
		q := exampleQuestion()
		q.c, q.day, q.formula, q.l = h.c, h.day, h.formula, h.l
		q.cases, _ = code.Cases(h.c, h.day, h.formula, h.l)
		before := [3]any{q.c, q.l, q.cases}
		kept := []string{text(q.c), text(q.l), text(q.cases)}
		for _, c := range calls() {
			c.ask(q)
		}
		code.Print(q.c)
		code.Amend(q.c, api.Version{From: 100})
		code.CheckRooms(q.l)
		for i, now := range before {
			if text(now) != kept[i] {
				t.Fatal(now, kept[i])
			}
		}
	}
}

// any makes any number, most often one that is near a bound.
func (m maker) any() int {
	edges := []int{-1, 0, 1, 2, 3, 4, 5, 6, 7, 9, 10, 20, 999, 1000, 1001, 100000, 100001, 1000000, -1000000, 1000000000, 20000000000, 1000000000000, -1000000000001,
		math.MaxInt, math.MinInt, math.MaxInt32, math.MinInt32}
	return edges[m.Intn(len(edges))]
}

// anyCode makes codes that are hardly ever valid.
func (m maker) anyCode() api.Code {
	c := m.code()
	for range 1 + m.Intn(3) {
		v := &c.Versions[m.Intn(len(c.Versions))]
		f, g := m.Intn(2), m.Intn(5)
		switch m.Intn(5) {
		case 0:
			v.From = m.any()
		case 1:
			v.Puts = append(v.Puts, api.Put{Group: m.any()})
		case 2:
			v.Puts = append(v.Puts, api.Put{Group: 1, Tests: []api.Test{{Of: m.any(), How: m.any(), Num: m.any()}}})
		case 3:
			v.Lines[f][g] = append(v.Lines[f][g], api.Piece{From: m.any(), Base: m.any(), Rate: m.any()})
		case 4:
			c.Versions = c.Versions[:m.Intn(len(c.Versions)+1)]
		}
		if len(c.Versions) == 0 {
			break
		}
	}
	return c
}

// TestAnyArguments is P1: no arguments make a function panic; whatever they
// are, nothing is beside an error.
func TestAnyArguments(t *testing.T) {
	m := newMaker(61, 20)
	errors := map[api.Errno]int{}
	for range 6000 {
		q := question{c: m.code(), l: m.rooms(5, 9), version: m.any(), other: m.any(), day: m.any(), formula: m.Intn(3), group: m.any(), litres: m.any()}
		if m.Intn(3) == 0 {
			q.c = m.anyCode()
		}
		if m.Intn(3) == 0 {
			q.l = append(q.l, api.Room{Id: m.any(), Kind: m.any(), Opening: m.any(), Crew: m.any(), Litres: api.Range{Lo: m.any(), Hi: m.any()}})
		}
		if m.Intn(3) == 0 {
			q.formula = m.any()
		}
		for g := range q.all {
			q.all[g] = m.any()
		}
		q.r = api.Room{Id: m.any(), Kind: m.any(), Opening: m.any(), Crew: m.any(), Litres: api.Range{Lo: m.any(), Hi: m.any()}}
		q.ends[m.Intn(2)].Litres[m.Intn(5)] = m.any()
		q.cases = make([]api.Case, m.Intn(4))
		for _, c := range calls() {
			e, zero := c.ask(q)
			if e != api.OK && !zero {
				t.Fatal(c.name, q, e)
			}
			errors[e]++
		}
		code.Print(q.c)
		code.Amend(q.c, m.version(m.any()))
	}
	for _, e := range []api.Errno{api.OK, api.ErrArg, api.ErrDay, api.ErrRoom, api.ErrCode, api.ErrVersion, api.ErrForce, api.ErrEnds, api.ErrCase} {
		if errors[e] < 100 {
			t.Error("too seldom", e, errors[e])
		}
	}
}

// TestAnyTexts: no text makes Parse panic, and what it reads is a code that
// Print writes so that it is read again.
func TestAnyTexts(t *testing.T) {
	m := newMaker(62, 20)
	words := []string{"code", "version", "put", "gross", "net", "kind", "opening", "crew", "<", "<=", "=", "!=", ">=", ">", "0", "1", "2", "5", "-1", "x", "red",
		"\n", "\n", "\n", "#", " ", "\x00", "\xff", "9999999999999", "-", "é"}
	read := 0
	for range 30000 {
		text := []string{"", "code x\n", "code x\nversion 0\n", exampleText}[m.Intn(4)]
		for range m.Intn(9) {
			text += words[m.Intn(len(words))] + " "
		}
		c, line, e := code.Parse(text)
		switch {
		case e == api.OK && line == 0:
			read++
			again, err := code.Print(c)
			if d, _, e := code.Parse(again); err != api.OK || e != api.OK || !same(c, d) {
				t.Fatalf("%q %q", text, again)
			}
		case e == api.ErrText && line < 1, e == api.ErrCode && line != 0, e != api.ErrText && e != api.ErrCode, !same(c, api.Code{}):
			t.Fatalf("%q: %v %d %d", text, c, line, e)
		}
	}
	if read < 1000 {
		t.Error("only", read, "texts are read")
	}
}
