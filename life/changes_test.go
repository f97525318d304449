package life_test

import (
	"slices"
	"testing"

	"moorsom/api"
	"moorsom/life"
)

func TestChangeExamples(t *testing.T) {
	l := example()
	for known, want := range map[int][]int{9: nil, 10: {10}, 40: {10, 20, 25, 30}, 50: {10, 20, 25, 30, 50}, 60: {10, 20, 25, 30}} {
		if got, e := life.Days(l, 7, known); e != api.OK || !slices.Equal(got, want) {
			t.Error(known, got, e)
		}
	}
	for _, c := range []struct {
		day, known, later int
		want              []int
	}{{30, 30, 40, []int{5}}, {30, 40, 30, []int{5}}, {30, 40, 45, []int{5, 100}}, {30, 40, 44, nil}, {30, 40, 40, nil}, {30, 0, 45, []int{5, 100}}, {50, 50, 60, []int{5}}, {20, 30, 40, nil}} {
		if got, e := life.Changed(l, 7, c.day, c.known, c.later); e != api.OK || !slices.Equal(got, c.want) {
			t.Error(c, got, e)
		}
	}
	if got, e := life.Changed(l, 7, 9, 30, 40); e != api.ErrShip || len(got) != 0 {
		t.Error(got, e)
	}
	for seq, want := range [][]int{{7}, {7}, {7}, {7}, nil, {7}, {7}} {
		if got, e := life.Touched(l, place(0, seq), 60); e != api.OK || !slices.Equal(got, want) {
			t.Error(seq, got, e)
		}
	}
	if got, e := life.Touched(l, place(0, 7), 60); e != api.ErrNone || len(got) != 0 {
		t.Error(got, e)
	}
}

// TestDays: what does nothing, or is undone on the same day, makes no day.
func TestDays(t *testing.T) {
	for name, c := range map[string]struct {
		l    []api.Event
		want []int
	}{
		"never there":      {list(flag(1, 2), room(2, 5)), nil},
		"on the day 0":     {list(build(0, 1, 9), flag(5, 2)), []int{0, 5}},
		"on the last day":  {list(build(100000, 1, 9), told(5, flag(99999, 2))), nil},
		"the same flag":    {list(build(1, 1, 9), flag(2, 1), flag(3, 2), flag(4, 2), flag(5, 1)), []int{1, 3, 5}},
		"the same numbers": {list(build(1, 1, 9), room(2, 5), kind(3, 5, 3), opening(4, 5, 0), crew(5, 5, 4), crew(6, 5, 5)), []int{1, 2, 6}},
		"undone":           {list(build(1, 1, 9), flag(3, 2), flag(3, 1), room(4, 5), gone(4, 5), flag(5, 3)), []int{1, 5}},
		"a room again":     {list(build(1, 1, 9), room(2, 5), gone(3, 5), room(3, 5)), []int{1, 2, 3}},
		"void":             {list(build(1, 1, 9), build(2, 2, 9), gone(3, 5), read(4, 5, 0, 0)), []int{1}},
		"read":             {list(build(1, 1, 9), read(3, 9, 0, 0), read(2, 9, 1, 0)), []int{1, 2, 3}},
		"tapes":            {list(build(1, 1, 9), tape(3, 0, 9, 0, 5)), []int{1}},
	} {
		if got, e := life.Days(c.l, 7, 99999); e != api.OK || !slices.Equal(got, c.want) {
			t.Error(name, got, e)
		}
	}
	if got, e := life.Days(list(build(100000, 1, 9)), 7, 100000); e != api.OK || !slices.Equal(got, []int{100000}) {
		t.Error(got, e)
	}
}

// TestChanged: the hull and rooms, as they are known before and behind.
func TestChanged(t *testing.T) {
	for name, c := range map[string]struct {
		l    []api.Event
		want []int
	}{
		"built":            {list(told(20, build(1, 1, 9)), told(20, room(2, 3))), []int{3, 9}},
		"no longer built":  {list(build(1, 1, 9), room(2, 3), withdraw(20, 0)), []int{3, 9}},
		"a flag":           {list(build(1, 1, 9), told(20, flag(2, 2))), nil},
		"a room":           {list(build(1, 1, 9), told(20, room(2, 3)), room(2, 4), told(20, gone(3, 4))), []int{3, 4}},
		"numbers":          {list(build(1, 1, 9), room(2, 3), room(2, 4), room(2, 5), room(2, 6), told(20, kind(3, 3, 9)), told(20, opening(3, 4, 9)), told(20, crew(3, 5, 9))), []int{3, 4, 5}},
		"the same number":  {list(build(1, 1, 9), room(2, 3), told(20, kind(3, 3, 3))), nil},
		"readings":         {list(build(1, 1, 9), room(2, 3), room(2, 4), told(20, read(3, 9, 0, 0)), told(20, read(3, 4, 0, 0))), []int{4, 9}},
		"tapes":            {list(build(1, 1, 9), room(2, 3), told(20, of(999, tape(3, 0, 9, 0, 5)))), []int{3, 9}},
		"a later day":      {list(build(1, 1, 9), room(2, 3), told(20, gone(31, 3))), nil},
		"hull and room":    {list(build(1, 1, 9), told(20, build(0, 1, 3)), room(2, 3), told(20, room(2, 9))), []int{3, 9}},
		"another hull":     {list(build(1, 1, 9), told(20, build(0, 1, 9))), []int{9}},
		"another room":     {list(build(1, 1, 9), told(20, room(2, 3)), room(2, 3)), []int{3}},
		"nothing of other": {list(build(1, 1, 9), told(20, of(8, build(1, 1, 3))), told(20, of(8, flag(3, 3)))), nil},
	} {
		for _, days := range [][2]int{{10, 20}, {20, 10}} {
			if got, e := life.Changed(c.l, 7, 30, days[0], days[1]); e != api.OK || !slices.Equal(got, c.want) {
				t.Error(name, got, e)
			}
		}
		if got, e := life.Changed(c.l, 7, 30, 20, 20); name != "no longer built" && (e != api.OK || len(got) != 0) {
			t.Error(name, got, e)
		}
	}
}

func TestTouched(t *testing.T) {
	for name, c := range map[string]struct {
		l    []api.Event
		seq  int
		want []int
	}{
		"built":               {list(build(1, 1, 9), of(8, build(1, 1, 9))), 0, []int{7}},
		"built by another":    {list(build(1, 1, 9), build(5, 1, 9)), 0, []int{7}},
		"void":                {list(build(1, 1, 9), build(5, 1, 9)), 1, nil},
		"known later":         {list(build(1, 1, 9), told(31, flag(2, 2))), 1, nil},
		"withdrawn":           {list(build(1, 1, 9), flag(2, 2), withdraw(5, 1)), 1, nil},
		"withdrawal":          {list(build(1, 1, 9), flag(2, 2), withdraw(5, 1)), 2, []int{7}},
		"withdrawal of none":  {list(build(1, 1, 9), flag(2, 1), withdraw(5, 1)), 2, nil},
		"both":                {list(build(1, 1, 9), withdraw(5, 0), withdraw(6, 0)), 1, nil},
		"tape":                {list(build(1, 1, 9), of(8, build(1, 1, 9)), of(999, tape(3, 0, 9, 0, 5))), 2, []int{7, 8}},
		"only for a while":    {list(build(1, 1, 9), flag(2, 2), flag(3, 1)), 1, []int{7}},
		"undone at once":      {list(build(1, 1, 9), flag(2, 2), flag(2, 1)), 1, nil},
		"on the last day":     {list(build(1, 1, 9), told(5, flag(100000, 2))), 1, []int{7}},
		"hindered what is":    {list(build(1, 1, 9), room(2, 3), told(5, room(2, 3))), 1, []int{7}},
		"on another day only": {list(build(1, 1, 9), build(2, 1, 9)), 0, []int{7}},
	} {
		if got, e := life.Touched(c.l, place(0, c.seq), 30); e != api.OK || !slices.Equal(got, c.want) {
			t.Error(name, got, e)
		}
	}
}

// eachDay tells what a ship is on each day, as text; "" is a ship that is not there.
func eachDay(l []api.Event, ship, top, known int) []string {
	var states []string
	for day := range top {
		s := ""
		if made := thought(l, ship, day, known); made.there {
			s = text(made.state(ship))
		}
		states = append(states, s)
	}
	return states
}

// TestEachDay holds Days, Changed and Touched against what a ship is on each day.
func TestEachDay(t *testing.T) {
	touched, changed := 0, 0
	lists(t, 41, 120, func(m maker, l []api.Event) {
		known, ships := m.Intn(m.top), []int{7, 8, 999}
		for _, ship := range ships {
			var days []int
			before := ""
			for day, s := range eachDay(l, ship, m.top, known) {
				if s != before {
					days = append(days, day)
				}
				before = s
			}
			if got, e := life.Days(l, ship, known); e != api.OK || !slices.Equal(got, days) {
				t.Fatal(l, ship, known, got, e)
			}
			day, later := m.Intn(m.top), m.Intn(m.top)
			want, there := changedOf(l, ship, day, known, later)
			got, e := life.Changed(l, ship, day, known, later)
			if there && e != api.OK || !there && e != api.ErrShip || !slices.Equal(got, want) {
				t.Fatal(l, ship, day, known, later, got, e)
			}
			changed += len(got)
		}
		for range min(len(l), 3) {
			at := l[m.Intn(len(l))].At
			var want []int
			for _, ship := range ships {
				if !slices.Equal(eachDay(l, ship, m.top, known), eachDay(less(l, at), ship, m.top, known)) {
					want = append(want, ship)
				}
			}
			if got, e := life.Touched(l, at, known); e != api.OK || !slices.Equal(got, want) {
				t.Fatal(l, at, known, got, e)
			}
			touched += len(want)
		}
	})
	if touched < 50 || changed < 50 {
		t.Error("too little changes:", touched, changed)
	}
}

// changedOf are the Ids of what is not the same on both days of knowledge,
// and whether the ship is there on one of them.
func changedOf(l []api.Event, ship, day, known, later int) ([]int, bool) {
	a, b := thought(l, ship, day, known), thought(l, ship, day, later)
	describe := func(x *thing) string {
		if x == nil {
			return ""
		}
		return text(*x)
	}
	var ids []int
	for id := range 1000 {
		if describe(a.things[id]) != describe(b.things[id]) {
			ids = append(ids, id)
		}
	}
	return ids, a.there || b.there
}
