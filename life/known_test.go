package life_test

import (
	"slices"
	"testing"

	"moorsom/api"
	"moorsom/life"
)

func TestKnownExamples(t *testing.T) {
	l := example()
	for known, want := range map[int][]int{0: nil, 9: nil, 10: {0}, 40: {0, 1, 2, 3}, 50: {0, 1, 2, 3, 4, 6}, 60: {0, 1, 2, 3, 5, 6}, 100000: {0, 1, 2, 3, 5, 6}} {
		if got, e := life.Standing(l, known); e != api.OK || !slices.Equal(got, want) {
			t.Error(known, got, e)
		}
	}
	for known, want := range map[int][]int{50: nil, 59: nil, 60: {4}, 70: {4}} {
		if got, e := life.Withdrawn(l, known); e != api.OK || !slices.Equal(seqs(got), want) {
			t.Error(known, got, e)
		}
	}
	for _, c := range []struct {
		day, known int
		want       []int
	}{{9, 100, nil}, {10, 100, []int{7}}, {10, 9, nil}, {10, 10, []int{7}}, {100000, 10, []int{7}}, {0, 100000, nil}} {
		if got, e := life.Ships(l, c.day, c.known); e != api.OK || !slices.Equal(got, c.want) {
			t.Error(c, got, e)
		}
	}
	if got, e := life.Dates(l, 7); e != api.OK || !slices.Equal(got, []int{10, 20, 30, 40, 45, 50, 60}) {
		t.Error(got, e)
	}
	if got, e := life.Dates(l, 8); e != api.OK || !slices.Equal(got, []int{45, 60}) {
		t.Error(got, e)
	}
}

// TestWithdrawals: a withdrawal that is withdrawn does not withdraw.
func TestWithdrawals(t *testing.T) {
	l := list(build(1, 1, 9), withdraw(10, 0), withdraw(20, 1), withdraw(30, 2), withdraw(40, 0))
	for known, want := range map[int][]int{5: {0}, 10: {1}, 19: {1}, 20: {0, 2}, 29: {0, 2}, 30: {1, 3}, 39: {1, 3}, 40: {1, 3, 4}} {
		if got, e := life.Standing(l, known); e != api.OK || !slices.Equal(got, want) {
			t.Error(known, got, e)
		}
	}
	// Twice withdrawn: one withdrawal less leaves the other one.
	l = list(build(1, 1, 9), withdraw(10, 0), withdraw(10, 0), withdraw(20, 2))
	if got, e := life.Standing(l, 20); e != api.OK || !slices.Equal(got, []int{1, 3}) {
		t.Error(got, e)
	}
	// What is withdrawn may be known later than its withdrawal, or not be there at all.
	l = list(told(30, build(1, 1, 9)), withdraw(10, 0), withdraw(10, 0), withdraw(12, 1))
	l = append(less(l, place(0, 1)), put(flag(10, 1), place(0, 9)))
	for known, want := range map[int][]int{10: {1, 3}, 29: {1, 2, 3}, 30: {1, 2, 3}} {
		if got, e := life.Standing(l, known); e != api.OK || !slices.Equal(got, want) {
			t.Error(known, got, e)
		}
	}
	// Of another office's places nothing is withdrawn.
	l = []api.Event{put(build(1, 1, 9), place(0, 0)), put(build(1, 2, 9), place(1, 0)), {At: place(1, 1), Kind: api.EvWithdraw, Known: 5, Of: place(1, 0)}}
	if got, e := life.Standing(l, 9); e != api.OK || !slices.Equal(got, []int{0, 2}) {
		t.Error(got, e)
	}
}

// TestKnown holds all that is asked of knowledge against the chapter.
func TestKnown(t *testing.T) {
	withdrawn := 0
	lists(t, 21, 300, func(m maker, l []api.Event) {
		known := m.Intn(m.top + 1)
		var indices []int
		var places []api.Place
		for i, x := range l {
			if stands(l, x, known) {
				indices = append(indices, i)
			} else if x.Known <= known {
				places = append(places, x.At)
			}
		}
		withdrawn += len(places)
		if got, e := life.Standing(l, known); e != api.OK || !slices.Equal(got, indices) {
			t.Fatal(l, known, got, e)
		}
		if got, e := life.Withdrawn(l, known); e != api.OK || !slices.Equal(got, places) {
			t.Fatal(l, known, got, e)
		}
		for day := range m.top {
			var ships []int
			for _, n := range []int{7, 8, 999} {
				if slices.ContainsFunc(l, func(x api.Event) bool { return x.Kind == 1 && x.Ship == n && x.Day <= day && stands(l, x, known) }) {
					ships = append(ships, n)
				}
			}
			if got, e := life.Ships(l, day, known); e != api.OK || !slices.Equal(got, ships) {
				t.Fatal(l, day, known, got, e)
			}
		}
		for _, ship := range []int{7, 8, 999, 1} {
			if got, e := life.Dates(l, ship); e != api.OK || !slices.Equal(got, datesOf(l, ship)) {
				t.Fatal(l, ship, got, e)
			}
		}
	})
	if withdrawn < 200 {
		t.Error("too little is withdrawn:", withdrawn)
	}
}

// datesOf are the days on which something of a ship becomes known.
func datesOf(l []api.Event, ship int) []int {
	var dates []int
	for day := range 100 {
		if slices.ContainsFunc(l, func(x api.Event) bool { return x.Known == day && (x.Ship == ship || x.Kind >= 9) }) {
			dates = append(dates, day)
		}
	}
	return dates
}
