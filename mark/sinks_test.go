package mark_test

import (
	"math"
	"math/rand"
	"slices"
	"testing"

	"moorsom/api"
	"moorsom/mark"
	"moorsom/offsets"
)

// sunkExample is the witness of the example.
func sunkExample() api.Witness {
	return api.Witness{Dense: 1000, Mass: 200, Hull: api.Hull{Rows: [][]int{{75, 175}, {0, 130}}}}
}

// TestCheckSinks is P6.1: the example, and what is wrong with a witness.
func TestCheckSinks(t *testing.T) {
	v, l, r, mass := example(), exampleLines(), exampleRoute(), api.Range{Lo: 180, Hi: 200}
	for _, c := range []struct {
		change func(w *api.Witness)
		e      api.Errno
	}{
		{func(w *api.Witness) {}, api.OK},
		{func(w *api.Witness) { w.Mass = 191 }, api.OK},
		{func(w *api.Witness) { w.Mass = 190 }, api.ErrWitness},
		{func(w *api.Witness) { w.Mass = 201 }, api.ErrWitness},
		{func(w *api.Witness) { w.Mass = math.MinInt }, api.ErrWitness},
		{func(w *api.Witness) { w.Mass = math.MaxInt }, api.ErrWitness},
		{func(w *api.Witness) { w.Dense = 1025 }, api.OK}, // 190 * 1025 / 1000 is 194
		{func(w *api.Witness) { w.Dense, w.Mass = 1025, 194 }, api.ErrWitness},
		{func(w *api.Witness) { w.Dense = 999 }, api.ErrWitness},
		{func(w *api.Witness) { w.Dense = 1026 }, api.ErrWitness},
		{func(w *api.Witness) { w.Dense = math.MinInt }, api.ErrWitness},
		{func(w *api.Witness) { w.Leg = 1 }, api.ErrWitness}, // there 170 to 195
		{func(w *api.Witness) { w.Leg, w.Mass = 1, 195 }, api.OK},
		{func(w *api.Witness) { w.Leg = -1 }, api.ErrWitness},
		{func(w *api.Witness) { w.Leg = 2 }, api.ErrWitness},
		{func(w *api.Witness) { w.Leg = math.MinInt }, api.ErrWitness},
		{func(w *api.Witness) { w.Leg = math.MaxInt }, api.ErrWitness},
		{func(w *api.Witness) { w.Hull.Rows[0][0] = 74 }, api.ErrWitness},  // it does not keep the survey
		{func(w *api.Witness) { w.Hull.Rows[1][1] = 151 }, api.ErrWitness}, // it keeps the mark
		{func(w *api.Witness) { w.Hull.Rows[1] = []int{0} }, api.ErrWitness},
		{func(w *api.Witness) { w.Hull.Rows = nil }, api.ErrWitness},
	} {
		w := sunkExample()
		c.change(&w)
		if e := mark.CheckSinks(v, l, r, mass, w); e != c.e {
			t.Error(w, e, c.e)
		}
	}
	// A survey that is false needs no other error: no hull keeps it.
	if e := mark.CheckSinks(plus(v, falseReading()), l, r, mass, sunkExample()); e != api.ErrWitness {
		t.Error(e)
	}
	// At the first waterline any mass above 0 sinks.
	low := linesWith(func(l *api.Lines) { l.Depth = 1149 })
	for n, want := range map[int]api.Errno{0: api.ErrWitness, 1: api.OK} {
		w := sunkExample()
		w.Mass = n
		if e := mark.CheckSinks(v, low, r, api.Range{Hi: 1}, w); e != want {
			t.Error(n, e)
		}
	}
}

// TestSinks is P6.1: the legs of witnesses, and none where all answers are Yes.
func TestSinks(t *testing.T) {
	v, l, r := example(), exampleLines(), exampleRoute()
	winter := exampleRoute()
	winter.Legs[1].Zone = 2
	low := linesWith(func(l *api.Lines) { l.Depth = 1149 })
	sea := api.Route{Legs: []api.Leg{steady(one(0))}}
	for _, c := range []struct {
		v    api.Survey
		l    api.Lines
		r    api.Route
		mass api.Range
		leg  int
		e    api.Errno
	}{
		{v, l, r, api.Range{Lo: 180, Hi: 200}, 0, api.OK},
		{v, l, r, one(500), 0, api.OK},
		{v, l, r, api.Range{Lo: 0, Hi: 190}, 0, api.ErrNone},
		{v, l, winter, one(100), 1, api.OK},
		{v, l, winter, one(10), 1, api.OK},
		{v, l, winter, one(5), 0, api.ErrNone},
		{v, l, winter, api.Range{Lo: 190, Hi: 191}, 0, api.OK},
		{v, low, r, one(1), 0, api.OK},
		{v, low, r, api.Range{}, 0, api.ErrNone},
		{hollow(), l, sea, api.Range{}, 0, api.OK},
	} {
		w, e := mark.Sinks(c.v, c.l, c.r, c.mass)
		if w.Leg != c.leg || e != c.e || e != api.OK && !noWitness(w) {
			t.Error(c, w, e)
		}
		if e != api.OK {
			continue
		}
		if e := mark.CheckSinks(c.v, c.l, c.r, c.mass, w); e != api.OK {
			t.Error(c, w, e)
		}
	}
}

func noWitness(w api.Witness) bool {
	return w.Leg == 0 && w.Dense == 0 && w.Mass == 0 && len(w.Hull.Rows) == 0
}

// isWitness is what CheckSinks is to say, as the chapter tells it.
func (d departure) isWitness(t *testing.T, w api.Witness) bool {
	t.Helper()
	if w.Leg < 0 || w.Leg >= len(d.route.Legs) {
		return false
	}
	x, mass := d.route.Legs[w.Leg], massesOf(d.route, d.mass)[w.Leg]
	if w.Dense < x.Dense.Lo || w.Dense > x.Dense.Hi || w.Mass < mass.Lo || w.Mass > mass.Hi {
		return false
	}
	listed := slices.ContainsFunc(d.hulls, func(h api.Hull) bool { return sameHull(h, w.Hull) })
	return listed && w.Mass > floorDiv(litresOf(t, d.survey.Space, w.Hull, d.marks[w.Leg])*w.Dense, 1000)
}

// randomWitness has a hull of the ship, and now and then something wrong.
func (d departure) randomWitness(r *rand.Rand) api.Witness {
	leg := r.Intn(len(d.route.Legs))
	mass, dense := massesOf(d.route, d.mass)[leg], d.route.Legs[leg].Dense
	w := api.Witness{Leg: leg, Dense: dense.Lo + r.Intn(dense.Hi-dense.Lo+1), Mass: mass.Lo + r.Intn(mass.Hi-mass.Lo+1)}
	for _, row := range d.hulls[r.Intn(len(d.hulls))].Rows {
		w.Hull.Rows = append(w.Hull.Rows, slices.Clone(row))
	}
	switch r.Intn(8) {
	case 0:
		w.Leg += r.Intn(3) - 1
	case 1:
		w.Dense += r.Intn(7) - 3
	case 2:
		w.Mass += r.Intn(21) - 10
	case 3:
		w.Hull.Rows[r.Intn(2)][r.Intn(2)] += r.Intn(3) - 1
	}
	return w
}

// TestRandomSinks is P6.2: where the answer is not Yes a witness is shown; where it
// is Yes none is accepted, and else those are that are some.
func TestRandomSinks(t *testing.T) {
	shown, sure, accepted := 0, 0, 0
	departures(t, 73, 800, func(r *rand.Rand, d departure) {
		answers := d.answersOf(d.mass)
		first := slices.IndexFunc(answers, func(n int) bool { return n != api.Yes })
		w, e := mark.Sinks(d.survey, d.lines, d.route, d.mass)
		if first < 0 {
			sure++
			if e != api.ErrNone || !noWitness(w) {
				t.Fatal(d.survey, d.lines, d.route, d.mass, w, e)
			}
		} else {
			shown++
			if e != api.OK || w.Leg != first || !d.isWitness(t, w) {
				t.Fatal(d.survey, d.lines, d.route, d.mass, w, e, first)
			}
			mustHold(t, mark.CheckSinks(d.survey, d.lines, d.route, d.mass, w), d.survey, w)
		}
		for range 20 {
			w := d.randomWitness(r)
			e, want := mark.CheckSinks(d.survey, d.lines, d.route, d.mass, w), api.ErrWitness
			if d.isWitness(t, w) {
				accepted++
				want = api.OK
			}
			if e != want || first < 0 && e == api.OK {
				t.Fatal(d.survey, d.lines, d.route, d.mass, w, e, want)
			}
		}
	})
	if min(shown, sure) < 200 || accepted < 1000 {
		t.Error("too few of a kind:", shown, sure, accepted)
	}
}

// TestManyHulls is P6.2 for a ship of more offsets than can be listed: hulls
// that attain ends of all kinds keep the marks of what is passed.
func TestManyHulls(t *testing.T) {
	v := api.Survey{Space: api.Space{Id: 1, Source: 1, Fair: api.Fair{Along: 300, Up: 800}}}
	v.Space.Stations, v.Space.Waters = []int{0, 1000, 2000, 4000, 10000}, []int{0, 500, 1000, 3000}
	for i := range 5 {
		v.Readings = append(v.Readings, api.Reading{Source: 2 + i, Station: i, Water: i % 4, Value: 2000 + 100*i, Tolerance: 5 * i, Tape: 1 + i%2, Day: 3})
	}
	l := linesWith(func(l *api.Lines) { l.Depth = 4000 })
	r := exampleRoute()
	sure, e := mark.Sure(v, l, r)
	if e != api.OK || sure < 1000 {
		t.Fatal(sure, e)
	}
	for i := range v.Space.Stations {
		for k := range v.Space.Waters {
			for _, high := range []bool{true, false} {
				h, e := offsets.Attain(v, api.What{Kind: api.WhatOffset, Station: i, Water: k}, high)
				mustHold(t, e)
				if floorDiv(litresOf(t, v.Space, h, 3)*1000, 1000) < sure {
					t.Error(h, sure)
				}
				for leg := range r.Legs {
					mass := massesOf(r, one(sure))[leg].Hi
					if e := mark.CheckSinks(v, l, r, one(sure), api.Witness{Leg: leg, Dense: 1000, Mass: mass, Hull: h}); e != api.ErrWitness {
						t.Error(h, leg, e)
					}
				}
			}
		}
	}
	w, e := mark.Sinks(v, l, r, one(sure+1))
	if e != api.OK || floorDiv(litresOf(t, v.Space, w.Hull, 3)*w.Dense, 1000) >= sure+1 {
		t.Error(w, e)
	}
}
