package offsets_test

import (
	"math"
	"math/rand"
	"slices"
	"testing"

	"moorsom/api"
	"moorsom/bound"
	"moorsom/offsets"
)

func TestUnknown(t *testing.T) {
	valid, _ := spaces()
	for _, s := range append(valid, plainSpace(9, 7, api.Fair{})) {
		want := 0
		for i := range s.Stations {
			for k := range s.Waters {
				want++
				if n, e := offsets.Unknown(s, i, k); n != want || e != api.OK {
					t.Error(s, i, k, n, e)
				}
			}
		}
		rows, columns := len(s.Stations), len(s.Waters)
		for _, x := range [][2]int{{-1, 0}, {0, -1}, {rows, 0}, {0, columns}, {-1, columns}, {math.MinInt, math.MaxInt}, {math.MaxInt, 0}, {0, math.MinInt}} {
			if n, e := offsets.Unknown(s, x[0], x[1]); n != 0 || e != api.ErrNone {
				t.Error(s, x, n, e)
			}
		}
	}
	if n, e := offsets.Unknown(exampleSpace(), 1, 0); n != 3 || e != api.OK {
		t.Error(n, e)
	}
}

func TestTapes(t *testing.T) {
	v := example()
	days, e := offsets.Tapes(v)
	if want := []api.TapeDay{{Tape: 1, Day: 5}, {Tape: 2, Day: 5}}; !slices.Equal(days, want) || e != api.OK {
		t.Error(days, e)
	}
	// In the order in which they come first, not by their numbers; neither the tape nor the day alone is one.
	v.Readings = nil
	for _, d := range [][2]int{{7, 9}, {7, 3}, {2, 9}, {7, 9}, {99, 0}, {2, 9}, {9, 7}, {7, 3}, {1, api.MaxDay}} {
		v.Readings = append(v.Readings, api.Reading{Source: 4, Tape: d[0], Day: d[1]})
	}
	want := []api.TapeDay{{Tape: 7, Day: 9}, {Tape: 7, Day: 3}, {Tape: 2, Day: 9}, {Tape: 99, Day: 0}, {Tape: 9, Day: 7}, {Tape: 1, Day: api.MaxDay}}
	if days, e := offsets.Tapes(v); !slices.Equal(days, want) || e != api.OK {
		t.Error(days, e)
	}
	// A comparison makes no tape day.
	if days, e := offsets.Tapes(api.Survey{Space: exampleSpace(), Compares: example().Compares}); len(days) != 0 || e != api.OK {
		t.Error(days, e)
	}
	// Also where the survey is false.
	if days, e := offsets.Tapes(falseExample()); len(days) != 2 || e != api.OK {
		t.Error(days, e)
	}
}

// TestExampleSystem has all limits of the chapter's example, in order.
func TestExampleSystem(t *testing.T) {
	want := []api.Limit{
		{A: 0, B: 1, Most: 20000, By: 1}, {A: 1, B: 0, Most: 0, By: 1}, {A: 0, B: 2, Most: 20000, By: 1}, {A: 2, B: 0, Most: 0, By: 1},
		{A: 0, B: 3, Most: 20000, By: 1}, {A: 3, B: 0, Most: 0, By: 1}, {A: 0, B: 4, Most: 20000, By: 1}, {A: 4, B: 0, Most: 0, By: 1},
		{A: 1, B: 3, Most: 100, By: 1}, {A: 3, B: 1, Most: 100, By: 1}, {A: 2, B: 4, Most: 100, By: 1}, {A: 4, B: 2, Most: 100, By: 1},
		{A: 1, B: 2, Most: 200, By: 1}, {A: 2, B: 1, Most: 200, By: 1}, {A: 3, B: 4, Most: 200, By: 1}, {A: 4, B: 3, Most: 200, By: 1},
		{A: 0, B: 5, Most: 1000, By: 1}, {A: 5, B: 0, Most: 1000, By: 1}, {A: 0, B: 6, Most: 1000, By: 1}, {A: 6, B: 0, Most: 1000, By: 1},
		{A: 0, B: 5, Most: -5, By: 21}, {A: 5, B: 0, Most: 15, By: 21},
		{A: 5, B: 1, Most: 110, By: 11}, {A: 1, B: 5, Most: -90, By: 11}, {A: 5, B: 2, Most: 210, By: 12}, {A: 2, B: 5, Most: -190, By: 12},
		{A: 6, B: 3, Most: 160, By: 13}, {A: 3, B: 6, Most: -140, By: 13}, {A: 6, B: 4, Most: 310, By: 14}, {A: 4, B: 6, Most: -290, By: 14},
	}
	s, e := offsets.System(example())
	if s.Many != 6 || !slices.Equal(s.Limits, want) || e != api.OK {
		t.Error(s, e)
	}
}

// TestSystems holds the systems of many surveys against the list of the chapter.
func TestSystems(t *testing.T) {
	anySurveys(t, 1, func(_ *rand.Rand, v api.Survey) {
		s, e := offsets.System(v)
		if want := systemOf(v); e != api.OK || s.Many != want.Many || !slices.Equal(s.Limits, want.Limits) {
			t.Fatal(v, s, e)
		}
		mustHold(t, bound.Check(s), v)
		if days, e := offsets.Tapes(v); e != api.OK || !slices.Equal(days, daysOf(v)) {
			t.Fatal(v, days, e)
		}
	})
}

// TestChanges has how far offsets may differ: rounded up, and at most MaxBreadth.
func TestChanges(t *testing.T) {
	for _, c := range []struct{ rate, distance, want int }{
		{0, 15000, 0}, {1, 1, 1}, {1, 1000, 1}, {1, 1001, 2}, {999, 1, 1}, {1000, 1, 1}, {1001, 1, 2}, {333, 1000, 333}, {333, 1001, 334}, {333, 999, 333},
		{2, 9999, 20}, {19999, 1000, 19999}, {20000, 1000, 20000}, {20001, 1000, 20000}, {api.MaxFair, 200, 20000}, {api.MaxFair, 199, 19900}, {api.MaxFair, 15000, 20000},
	} {
		s := exampleSpace()
		s.Fair.Along, s.Stations[1] = c.rate, c.distance
		if got := mostBetween(t, s, 1, 3); got != c.want {
			t.Error(c, got)
		}
		s = exampleSpace()
		s.Fair.Up, s.Waters = c.rate, []int{0, c.distance}
		if got := mostBetween(t, s, 1, 2); got != c.want {
			t.Error(c, got)
		}
	}
	s := exampleSpace()
	s.Fair.Along, s.Stations[1] = api.MaxFair, api.MaxAlong
	if got := mostBetween(t, s, 1, 3); got != api.MaxBreadth {
		t.Error(got)
	}
}

// mostBetween is by how much two offsets of a space may differ, both ways.
func mostBetween(t *testing.T, s api.Space, a, b int) int {
	t.Helper()
	system, e := offsets.System(api.Survey{Space: s})
	mustHold(t, e, s)
	most := -1
	for _, l := range system.Limits {
		if l.A == a && l.B == b || l.A == b && l.B == a {
			if most >= 0 && most != l.Most {
				t.Error("not the same both ways:", s, l, most)
			}
			most = l.Most
		}
	}
	return most
}

func TestExampleWeights(t *testing.T) {
	for _, c := range []struct {
		w       api.What
		want    []int
		divisor int
	}{
		{api.What{Kind: api.WhatLitres, Water: 1}, []int{0, 324000000, 324000000, 324000000, 324000000}, 648000000},
		{api.What{Kind: api.WhatPlane}, []int{0, 18000, 0, 18000, 0}, 180000},
		{api.What{Kind: api.WhatPlane, Water: 1}, []int{0, 0, 18000, 0, 18000}, 180000},
		{api.What{Kind: api.WhatSection}, []int{0, 18000, 18000, 0, 0}, 180000},
		{api.What{Kind: api.WhatSection, Station: 1}, []int{0, 0, 0, 18000, 18000}, 180000},
		{at(1, 0), []int{0, 0, 0, 1, 0}, 1},
	} {
		if l, d, e := offsets.Weights(exampleSpace(), c.w); !slices.Equal(l, c.want) || d != c.divisor || e != api.OK {
			t.Error(c, l, d, e)
		}
	}
}

// TestWeights holds the weights of all quantities of many spaces against the table of the chapter.
func TestWeights(t *testing.T) {
	many := []api.Space{plainSpace(9, 7, api.Fair{}), exampleSpace()}
	r := rand.New(rand.NewSource(2))
	for range 50 {
		many = append(many, randomSpace(r))
	}
	for _, s := range many {
		for _, w := range whats(s) {
			table, divisor := tableOf(s, w)
			want := append([]int{0}, slices.Concat(table...)...)
			if l, d, e := offsets.Weights(s, w); !slices.Equal(l, want) || d != divisor || e != api.OK {
				t.Error(s, w, l, d, e)
			}
		}
	}
}

// wrongWhats name what is not there, or more than their kind names.
func wrongWhats(s api.Space) []api.What {
	rows, columns := len(s.Stations), len(s.Waters)
	l := []api.What{
		{}, {Kind: -1, Water: 1}, {Kind: 5, Water: 1}, {Kind: math.MaxInt, Water: 1}, {Kind: math.MinInt},
		{Kind: api.WhatLitres}, {Kind: api.WhatLitres, Water: columns}, {Kind: api.WhatLitres, Water: -1}, {Kind: api.WhatLitres, Station: 1, Water: 1},
		{Kind: api.WhatPlane, Water: columns}, {Kind: api.WhatPlane, Water: -1}, {Kind: api.WhatPlane, Station: 1, Water: 1},
		{Kind: api.WhatSection, Station: rows}, {Kind: api.WhatSection, Station: -1}, {Kind: api.WhatSection, Station: 1, Water: 1},
		at(rows, 0), at(0, columns), at(-1, 0), at(0, -1), at(0, math.MaxInt), at(math.MinInt, 0),
	}
	for kind := 1; kind <= 4; kind++ {
		l = append(l, api.What{Kind: kind, Station: -1, Water: 1}, api.What{Kind: kind, Station: 1, Water: -1},
			api.What{Kind: kind, Station: math.MaxInt, Water: 1}, api.What{Kind: kind, Station: 1, Water: math.MaxInt}, api.What{Kind: kind, Station: rows, Water: columns})
	}
	return l
}

func TestWrongWhats(t *testing.T) {
	for _, s := range []api.Space{exampleSpace(), plainSpace(4, 3, api.Fair{}), plainSpace(3, 5, api.Fair{})} {
		for _, w := range wrongWhats(s) {
			if l, d, e := offsets.Weights(s, w); len(l) != 0 || d != 0 || e != api.ErrWhat {
				t.Error(s, w, l, d, e)
			}
		}
	}
}
