package code_test

import (
	"slices"
	"testing"

	"moorsom/api"
	"moorsom/code"
)

func TestInForce(t *testing.T) {
	c := api.Code{Name: "x", Versions: from(5, 6, 40, 100000)}
	for day, want := range map[int]int{5: 0, 6: 1, 7: 1, 39: 1, 40: 2, 99999: 2, 100000: 3} {
		if n, e := code.InForce(c, day); e != api.OK || n != want {
			t.Error(day, n, e)
		}
	}
	for day, want := range map[int]api.Errno{-1: api.ErrDay, 100001: api.ErrDay, 0: api.ErrForce, 4: api.ErrForce} {
		if n, e := code.InForce(c, day); e != want || n != 0 {
			t.Error(day, n, e)
		}
	}
	for day, want := range map[int]int{0: 0, 99: 0, 100: 1, 101: 1} {
		if n, e := code.InForce(example(), day); e != api.OK || n != want {
			t.Error(day, n, e)
		}
	}
}

func TestAmend(t *testing.T) {
	next, _ := versions()
	for _, v := range next {
		v.From = 101
		c, e := code.Amend(example(), v)
		if want := (api.Code{Name: "red", Versions: append(example().Versions, v)}); e != api.OK || !same(c, want) {
			t.Error(c, e)
		}
	}
	eleven := api.Code{Name: "a", Versions: from(0, 1, 2, 3, 4, 5, 6, 7, 8, 9, 10)}
	if c, e := code.Amend(eleven, api.Version{From: 11}); e != api.OK || len(c.Versions) != 12 {
		t.Error(c, e)
	}
}

func TestAmendErrors(t *testing.T) {
	_, wrong := versions()
	full := api.Code{Name: "a", Versions: from(0, 1, 2, 3, 4, 5, 6, 7, 8, 9, 10, 49)}
	for _, c := range []api.Code{{Name: "a", Versions: from(0)}, full} {
		for _, v := range append(wrong, from(-1, 0, 100001)...) {
			if d, e := code.Amend(c, v); e != api.ErrVersion || !same(d, api.Code{}) {
				t.Error(v, d, e)
			}
		}
	}
	for day, want := range map[int]api.Errno{48: api.ErrVersion, 49: api.ErrVersion, 50: api.ErrLong, 100000: api.ErrLong} {
		if d, e := code.Amend(full, api.Version{From: day}); e != want || !same(d, api.Code{}) {
			t.Error(day, d, e)
		}
	}
	for day, want := range map[int]api.Errno{99: api.ErrVersion, 100: api.ErrVersion, 101: api.OK} {
		if _, e := code.Amend(example(), api.Version{From: day}); e != want {
			t.Error(day, e)
		}
	}
}

// TestAmendKeeps is P4.5: what is told of days ahead of the new version stays.
func TestAmendKeeps(t *testing.T) {
	m := newMaker(45, 30)
	for range 100 {
		h := m.history(4, 20)
		last := h.c.Versions[len(h.c.Versions)-1].From
		v := m.version(last + 1 + m.Intn(10))
		c, e := code.Amend(h.c, v)
		if e != api.OK {
			t.Fatal(h.c, v, e)
		}
		for _, day := range []int{0, m.Intn(v.From), m.Intn(v.From), last, v.From - 1} {
			if old, now := answers(h.c, day, h.l), answers(c, day, h.l); !same(old, now) {
				t.Fatal(day, old, now)
			}
		}
		if n, e := code.InForce(c, v.From); e != api.OK || n != len(h.c.Versions) {
			t.Fatal(n, e)
		}
	}
}

// answers is all that is told of rooms on a day.
func answers(c api.Code, day int, l []api.Room) []any {
	index, e1 := code.InForce(c, day)
	plan, e2 := code.Compile(c, day, l)
	all := []any{index, e1, plan, e2}
	for f := range 2 {
		r, e1 := code.Judge(c, day, f, l)
		low, high, e2 := code.Ends(c, day, f, l)
		cases, e3 := code.Cases(c, day, f, l)
		shown, e4 := code.CheckCases(c, day, f, l, cases)
		opens, e5 := code.Opens(c, day, f, l)
		rests, e6 := code.Rests(c, day, f, l)
		e7 := code.CheckEnds(c, day, f, l, [2]api.End{low, high})
		all = append(all, r, low, high, cases, shown, opens, rests, e1, e2, e3, e4, e5, e6, e7)
	}
	return all
}

// TestSameWithinAVersion is P4.5: the answers change only with a version.
func TestSameWithinAVersion(t *testing.T) {
	m := newMaker(46, 30)
	changed := 0
	for range 100 {
		h := m.history(4, 20)
		for i, v := range h.c.Versions {
			first := answers(h.c, v.From, h.l)
			end := v.From + 20
			if i+1 < len(h.c.Versions) {
				end = h.c.Versions[i+1].From
			}
			for _, day := range []int{v.From + m.Intn(end-v.From), end - 1} {
				if now := answers(h.c, day, h.l); !same(first, now) {
					t.Fatal(h, day, first, now)
				}
			}
			if !same(first[2:], answers(h.c, end, h.l)[2:]) {
				changed++
			}
		}
	}
	if changed < 100 {
		t.Error("only", changed, "versions change something")
	}
}

func TestGroupExample(t *testing.T) {
	l := exampleRooms()
	for _, c := range []struct{ version, room, group, put int }{{0, 1, 1, 2}, {0, 2, 2, 1}, {0, 3, 0, 0}, {1, 3, 1, 0}, {1, 1, 1, 0}} {
		if g, p, e := code.Group(example(), c.version, l[c.room-1]); e != api.OK || g != c.group || p != c.put {
			t.Error(c, g, p, e)
		}
	}
}

// TestComparisons: each way to compare, with each of what is looked at, below,
// at and above the number.
func TestComparisons(t *testing.T) {
	so := map[int][3]bool{
		api.Less: {true, false, false}, api.AtMost: {true, true, false}, api.Equal: {false, true, false},
		api.Unequal: {true, false, true}, api.AtLeast: {false, true, true}, api.More: {false, false, true},
	}
	for how, want := range so {
		for of := range 4 {
			for i, n := range []int{4, 5, 6} {
				room := map[int]api.Room{
					1: {Id: 1, Kind: n, Opening: 5, Crew: 5},
					2: {Id: 5, Kind: 5, Opening: n, Crew: 5},
					3: {Id: 5, Kind: 5, Opening: 5, Crew: n},
				}
				r, known := room[of]
				if !known {
					continue
				}
				c := oneVersion(api.Version{Puts: []api.Put{{Group: 3, Tests: []api.Test{{Of: of, How: how, Num: 5}}}}})
				g, p, e := code.Group(c, 0, r)
				if want := want[i]; e != api.OK || (g == 3) != want || (p == 0) != want || !want && (g != 0 || p != -1) {
					t.Error(of, how, n, g, p, e)
				}
			}
		}
	}
}

func TestGroup(t *testing.T) {
	c := oneVersion(api.Version{})
	if g, p, e := code.Group(c, 0, api.Room{Id: 1, Kind: 1}); e != api.OK || g != 0 || p != -1 {
		t.Error(g, p, e)
	}
	m := newMaker(3, 30)
	puts := map[int]int{}
	for range 3000 {
		c := m.code()
		i := m.Intn(len(c.Versions))
		for _, r := range m.rooms(3, 5) {
			group, put := putOf(c.Versions[i], r)
			g, p, e := code.Group(c, i, r)
			if e != api.OK || g != group || p != put {
				t.Fatal(c.Versions[i], r, g, p, e)
			}
			puts[p]++
		}
	}
	if puts[-1] < 100 || puts[0] < 100 || puts[1] < 100 || puts[3] < 50 {
		t.Error(puts)
	}
}

func TestCompileExample(t *testing.T) {
	p, e := code.Compile(example(), 50, exampleRooms())
	want := api.Plan{Shares: [5]api.Share{
		{Group: 1, Rooms: []int{1}, Litres: api.Range{Lo: 900, Hi: 1100}}, {Group: 2, Rooms: []int{2}, Litres: api.Range{Lo: 50, Hi: 60}},
		{Group: 3}, {Group: 4}, {Group: 5},
	}, Exempt: []int{3}}
	if e != api.OK || !same(p, want) {
		t.Error(p, e)
	}
	p, e = code.Compile(example(), 100, exampleRooms())
	want = api.Plan{Version: 1, Shares: [5]api.Share{
		{Group: 1, Rooms: []int{1, 2, 3}, Litres: api.Range{Lo: 960, Hi: 1170}}, {Group: 2}, {Group: 3}, {Group: 4}, {Group: 5},
	}}
	if e != api.OK || !same(p, want) {
		t.Error(p, e)
	}
}

func TestCompile(t *testing.T) {
	m := newMaker(4, 30)
	for range 2000 {
		h := m.history(20, 1000)
		p, e := code.Compile(h.c, h.day, h.l)
		if e != api.OK || !same(h.c.Versions[p.Version], h.v) {
			t.Fatal(h, p, e)
		}
		ids := map[int][]int{}
		for _, r := range h.l {
			g, _ := putOf(h.v, r)
			ids[g] = append(ids[g], r.Id)
		}
		litres := litresOf(h.v, h.l)
		if !slices.Equal(p.Exempt, ids[0]) {
			t.Fatal(h, p)
		}
		for i, s := range p.Shares {
			if s.Group != i+1 || !slices.Equal(s.Rooms, ids[i+1]) || s.Litres != litres[i] {
				t.Fatal(h, p)
			}
		}
	}
	// As many litres as there can be.
	p, e := code.Compile(oneVersion(api.Version{Puts: []api.Put{{Group: 5}}}), 0, many(20))
	if e != api.OK || p.Shares[4].Litres != (api.Range{Hi: 20000000000}) || len(p.Shares[4].Rooms) != 20 {
		t.Error(p, e)
	}
}

func TestMoved(t *testing.T) {
	l, e := code.Moved(example(), 0, 1, exampleRooms())
	if e != api.OK || !slices.Equal(l, []int{2, 3}) {
		t.Error(l, e)
	}
	m := newMaker(5, 30)
	some := 0
	for range 2000 {
		h := m.history(8, 5)
		i, j := m.Intn(len(h.c.Versions)), m.Intn(len(h.c.Versions))
		var want []int
		for _, r := range h.l {
			g, _ := putOf(h.c.Versions[i], r)
			k, _ := putOf(h.c.Versions[j], r)
			if g != k {
				want = append(want, r.Id)
			}
		}
		some += min(len(want), 1)
		if l, e := code.Moved(h.c, i, j, h.l); e != api.OK || !slices.Equal(l, want) {
			t.Fatal(h, i, j, l, want, e)
		}
	}
	if some < 500 {
		t.Error(some)
	}
}

// TestMovedByPut: another put of the same group moves nothing, and no put is
// the group 0.
func TestMovedByPut(t *testing.T) {
	kind := func(g, n int) api.Put {
		return api.Put{Group: g, Tests: []api.Test{{Of: api.OfKind, How: api.Equal, Num: n}}}
	}
	c := api.Code{Name: "x", Versions: []api.Version{
		{From: 0, Puts: []api.Put{kind(1, 1), kind(0, 2), kind(3, 3)}},
		{From: 1, Puts: []api.Put{kind(3, 3), {Group: 1, Tests: []api.Test{{Of: api.OfKind, How: api.Unequal, Num: 2}}}}},
	}}
	l := []api.Room{{Id: 7, Kind: 1}, {Id: 8, Kind: 2}, {Id: 9, Kind: 3}, {Id: 10, Kind: 4}}
	if l, e := code.Moved(c, 0, 1, l); e != api.OK || !slices.Equal(l, []int{10}) {
		t.Error(l, e)
	}
	if l, e := code.Moved(c, 1, 1, l); e != api.OK || len(l) != 0 {
		t.Error(l, e)
	}
}
