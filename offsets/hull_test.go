package offsets_test

import (
	"math"
	"math/rand"
	"slices"
	"testing"

	"moorsom/api"
	"moorsom/offsets"
	"moorsom/weigh"
)

// exampleHull is that of the chapter's examples, which keeps V.
func exampleHull() api.Hull { return api.Hull{Rows: [][]int{{100, 200}, {150, 300}}} }

// wrongHulls are none of the chapter's space.
func wrongHulls() []api.Hull {
	l := []api.Hull{
		{}, {Rows: [][]int{}}, {Rows: [][]int{{100, 200}}}, {Rows: [][]int{{100, 200}, nil}}, {Rows: [][]int{{100}, {150}}},
		{Rows: [][]int{{100, 200}, {150, 300}, {150, 300}}}, {Rows: [][]int{{100, 200}, {150, 300, 300}}}, {Rows: [][]int{{100, 200, 200}, {150}}},
	}
	for _, n := range []int{-1, api.MaxBreadth + 1, math.MaxInt, math.MinInt} {
		for i := range 4 {
			h := exampleHull()
			h.Rows[i/2][i%2] = n
			l = append(l, h)
		}
	}
	return l
}

func TestCheckHullExamples(t *testing.T) {
	v := example()
	mustHold(t, offsets.CheckHull(v, exampleHull()))
	for _, h := range wrongHulls() {
		if e := offsets.CheckHull(v, h); e != api.ErrHull {
			t.Error(h, e)
		}
	}
	for _, c := range []struct {
		rows [][]int
		e    api.Errno
	}{
		{[][]int{{75, 175}, {0, 130}}, api.OK},         // both tapes tell much more
		{[][]int{{74, 175}, {0, 130}}, api.ErrHull},    // the tape 1 more than the comparison says
		{[][]int{{105, 205}, {175, 305}}, api.OK},      // both tell less
		{[][]int{{106, 205}, {175, 305}}, api.ErrHull}, // the tape 1 less than it says
		{[][]int{{85, 205}, {100, 250}}, api.OK},       // the tape 1 errs by 5, by both its readings
		{[][]int{{84, 205}, {100, 250}}, api.ErrHull},  // one of them asks for more, the other one for less
		{[][]int{{100, 200}, {150, 301}}, api.ErrHull}, // more than 100 from station to station
		{[][]int{{100, 190}, {150, 270}}, api.ErrHull}, // the tape 2 tells 150 to 300 of 120 from waterline to waterline
		{[][]int{{100, 190}, {150, 280}}, api.OK},
		{[][]int{{5000, 5000}, {5000, 5000}}, api.ErrHull}, // farther than any tape errs
		{[][]int{{20000, 20000}, {20000, 20000}}, api.ErrHull},
	} {
		if want := whole(api.Hull{Rows: c.rows}).keeps(v); want != (c.e == api.OK) {
			t.Fatal(c, want)
		}
		if e := offsets.CheckHull(v, api.Hull{Rows: c.rows}); e != c.e {
			t.Error(c, e)
		}
	}
	// No hull keeps a false survey.
	if e := offsets.CheckHull(falseExample(), exampleHull()); e != api.ErrHull {
		t.Error(e)
	}
	// What bounds a tape alone: the greatest error, and comparisons that contradict each other.
	alone := api.Survey{Space: exampleSpace(), Readings: []api.Reading{{Source: 11, Value: 1000, Tape: 4, Day: 1}}}
	for n, want := range map[int]api.Errno{0: api.OK, 2000: api.OK, 2001: api.ErrHull} {
		if e := offsets.CheckHull(alone, api.Hull{Rows: [][]int{{n, n}, {n, n}}}); e != want {
			t.Error(n, e)
		}
	}
	alone.Compares = []api.Compare{{Source: 12, Tape: 4, To: 1, Lo: 5, Hi: 8}, {Source: 13, Tape: 4, To: 9, Lo: 9, Hi: 9}}
	for _, n := range []int{991, 992, 995} {
		if e := offsets.CheckHull(alone, api.Hull{Rows: [][]int{{n, n}, {n, n}}}); e != api.ErrHull {
			t.Error(n, e)
		}
	}
}

// TestCheckHull holds CheckHull against the chapter, for hulls that are near the real one.
func TestCheckHull(t *testing.T) {
	kept, refused := 0, 0
	trueSurveys(t, 7, func(r *rand.Rand, f found) {
		lo, e1 := offsets.Attain(f.survey, at(0, 0), false)
		hi, e2 := offsets.Attain(f.survey, api.What{Kind: api.WhatLitres, Water: 1}, true)
		mustHold(t, max(e1, e2), f.survey)
		for range 30 {
			d := 1 + r.Intn(9)
			h := api.Hull{Rows: between(lo, hi, r.Intn(d+1), d).rows}
			for i := range h.Rows {
				for k := range h.Rows[i] {
					h.Rows[i][k] /= d
				}
			}
			h.Rows[r.Intn(len(h.Rows))][r.Intn(2)] += pick(r, 0, 0, 1, -1, 10, -10, 500)
			want := whole(h).keeps(f.survey)
			if e := offsets.CheckHull(f.survey, h); want != (e == api.OK) || !want && e != api.ErrHull {
				t.Fatal(f.survey, h, e, want)
			}
			if want {
				kept++
			} else {
				refused++
			}
		}
	})
	if kept < 500 || refused < 500 {
		t.Error("too few hulls are kept or refused:", kept, refused)
	}
}

func TestValueExamples(t *testing.T) {
	for _, c := range []struct {
		w    api.What
		want int
	}{
		{api.What{Kind: api.WhatLitres, Water: 1}, 375},
		{api.What{Kind: api.WhatPlane}, 25},
		{api.What{Kind: api.WhatPlane, Water: 1}, 50},
		{api.What{Kind: api.WhatSection}, 30},
		{api.What{Kind: api.WhatSection, Station: 1}, 45},
		{at(0, 0), 100}, {at(0, 1), 200}, {at(1, 0), 150}, {at(1, 1), 300},
	} {
		if n, e := offsets.Value(exampleSpace(), exampleHull(), c.w); n != c.want || e != api.OK {
			t.Error(c, n, e)
		}
	}
	// Hulls that no survey would allow have quantities too.
	h := api.Hull{Rows: [][]int{{0, 20000}, {0, 0}}}
	if n, e := offsets.Value(exampleSpace(), h, api.What{Kind: api.WhatLitres, Water: 1}); n != 10000 || e != api.OK {
		t.Error(n, e)
	}
}

// TestValues holds Value against what package weigh says of the same half-breadths.
func TestValues(t *testing.T) {
	r := rand.New(rand.NewSource(8))
	below := 0
	for range 200 {
		s := randomSpace(r)
		if r.Intn(2) == 0 { // with weights below 0
			s.Stations, s.Waters = []int{0, 1000, 4000}, []int{0, 2000, 2600, 2800}
		}
		h := api.Hull{}
		for range s.Stations {
			var row []int
			for range s.Waters {
				row = append(row, pick(r, 0, 0, 0, 0, 20000, r.Intn(20001)))
			}
			h.Rows = append(h.Rows, row)
		}
		for _, w := range whats(s) {
			n, e := offsets.Value(s, h, w)
			if want := valueByWeigh(t, s, h, w); n != want || e != api.OK {
				t.Fatal(s, h, w, n, e, want)
			}
			if n < 0 {
				below++
			}
		}
	}
	if below < 20 {
		t.Error("too few quantities are below 0:", below)
	}
}

// valueByWeigh is a quantity of a hull, as package weigh measures tables and lines.
func valueByWeigh(t *testing.T, s api.Space, h api.Hull, w api.What) int {
	t.Helper()
	switch w.Kind {
	case api.WhatLitres:
		box := api.Table{Stations: s.Stations, Waters: s.Waters[:w.Water+1]}
		for _, row := range h.Rows {
			box.Halves = append(box.Halves, row[:w.Water+1])
		}
		n, e := weigh.Litres(box)
		mustHold(t, e, s)
		return n
	case api.WhatPlane:
		var column []int
		for _, row := range h.Rows {
			column = append(column, row[w.Water])
		}
		n, e := weigh.Area(s.Stations, column)
		mustHold(t, e, s)
		return floorDiv(n, 18*10000)
	case api.WhatSection:
		n, e := weigh.Area(s.Waters, h.Rows[w.Station])
		mustHold(t, e, s)
		return floorDiv(n, 18*10000)
	}
	return h.Rows[w.Station][w.Water]
}

// TestErrorsOfValue: the space comes first, then the hull, then the quantity.
func TestErrorsOfValue(t *testing.T) {
	_, invalid := spaces()
	bad := api.What{Kind: 9}
	for _, s := range invalid {
		for _, h := range []api.Hull{exampleHull(), {}} {
			if n, e := offsets.Value(s, h, bad); n != 0 || e != api.ErrSpace {
				t.Error(s, n, e)
			}
		}
	}
	for _, h := range wrongHulls() {
		for _, w := range []api.What{bad, at(0, 0)} {
			if n, e := offsets.Value(exampleSpace(), h, w); n != 0 || e != api.ErrHull {
				t.Error(h, n, e)
			}
		}
	}
	for _, w := range wrongWhats(exampleSpace()) {
		if n, e := offsets.Value(exampleSpace(), exampleHull(), w); n != 0 || e != api.ErrWhat {
			t.Error(w, n, e)
		}
	}
}

// TestLines is P3.7: what hulls have whose offsets are all the same.
func TestLines(t *testing.T) {
	r := rand.New(rand.NewSource(9))
	many := []api.Space{plainSpace(9, 7, api.Fair{}), {Id: 1, Source: 1, Stations: []int{0, 1, 4, api.MaxAlong}, Waters: []int{0, api.MaxUp - 3, api.MaxUp - 1, api.MaxUp}}}
	for range 60 {
		s := randomSpace(r)
		s.Stations, s.Waters = randomPlaces(r, 2+r.Intn(8), 1+r.Intn(3000)), randomPlaces(r, 2+r.Intn(6), 1+r.Intn(700))
		many = append(many, s)
	}
	for _, s := range many {
		for _, b := range []int{0, 1, 499, 1 + r.Intn(19999), 20000} {
			h := api.Hull{}
			for range s.Stations {
				h.Rows = append(h.Rows, slices.Repeat([]int{b}, len(s.Waters)))
			}
			length := s.Stations[len(s.Stations)-1] - s.Stations[0]
			for k := range s.Waters[1:] {
				height := s.Waters[k+1] - s.Waters[0]
				n, e := offsets.Value(s, h, api.What{Kind: api.WhatLitres, Water: k + 1})
				if want := 2 * b * length * height / 1000000; n != want || e != api.OK {
					t.Fatal(s, b, k, n, e, want)
				}
			}
			mustHold(t, offsets.CheckHull(api.Survey{Space: s}, h), s, b)
		}
	}
}
