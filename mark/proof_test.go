package mark_test

import (
	"math"
	"math/rand"
	"slices"
	"testing"

	"moorsom/api"
	"moorsom/mark"
	"moorsom/offsets"
)

// TestProofs is P6.1: the example, and masses that are just shown.
func TestProofs(t *testing.T) {
	v, l, x := example(), exampleLines(), exampleRoute().Legs[0]
	p, e := mark.Prove(v, l, x)
	mustHold(t, e)
	for mass, want := range map[int]api.Errno{0: api.OK, 189: api.OK, 190: api.OK, 191: api.ErrShown, 1000000000000: api.ErrShown} {
		if e := mark.CheckProof(v, l, x, mass, p); e != want {
			t.Error(mass, e)
		}
	}
	// 190 litres of 900 to 1100 grams: 171 kilograms; of 1026: 194.94.
	for _, c := range []struct {
		dense api.Range
		most  int
	}{{api.Range{Lo: 900, Hi: 1100}, 171}, {api.Range{Lo: 1026, Hi: 1100}, 194}, {one(1100), 209}} {
		x.Dense = c.dense
		e1, e2 := mark.CheckProof(v, l, x, c.most, p), mark.CheckProof(v, l, x, c.most+1, p)
		if e1 != api.OK || e2 != api.ErrShown {
			t.Error(c, e1, e2)
		}
	}
}

// TestProofsOfFalseSurveys: what a proof shows does not ask whether some hull
// keeps the survey.
func TestProofsOfFalseSurveys(t *testing.T) {
	v, l, x := example(), exampleLines(), exampleRoute().Legs[0]
	p, e := mark.Prove(v, l, x)
	mustHold(t, e)
	// A further reading by the same tape day stands behind all other limits.
	for _, r := range []api.Reading{falseReading(), {Source: 15, Station: 1, Water: 1, Value: 10000, Tape: 2, Day: 5}} {
		f := plus(v, r)
		if _, e := mark.Prove(f, l, x); e != api.ErrFalse {
			t.Fatal(r, e)
		}
		e1, e2 := mark.CheckProof(f, l, x, 190, p), mark.CheckProof(f, l, x, 191, p)
		if e1 != api.OK || e2 != api.ErrShown {
			t.Error(r, e1, e2)
		}
	}
}

// TestProofsAtTheMark: which litres are proved follows from the days of the leg.
func TestProofsAtTheMark(t *testing.T) {
	v := box(500, 0, 10, 30, 60)
	x := steady(one(0))
	for depth, litres := range map[int]int{160: 100, 179: 100, 180: 300, 210: 600, 1200: 600} {
		l := linesWith(func(l *api.Lines) { l.Depth = depth })
		p, e := mark.Prove(v, l, x)
		mustHold(t, e, depth)
		e1, e2 := mark.CheckProof(v, l, x, litres, p), mark.CheckProof(v, l, x, litres+1, p)
		if e1 != api.OK || e2 != api.ErrShown {
			t.Error(depth, e1, e2)
		}
		w := api.What{Kind: api.WhatLitres, Water: map[int]int{100: 1, 300: 2, 600: 3}[litres]}
		mustHold(t, offsets.CheckProof(v, w, false, litres, p), depth)
	}
	for depth, want := range map[int]api.Errno{150: api.ErrWater, 159: api.ErrWater, 149: api.ErrAbove} {
		l := linesWith(func(l *api.Lines) { l.Depth = depth })
		p, e := mark.Prove(v, l, x)
		if e != want || p.Bound != 0 || len(p.Uses) != 0 {
			t.Error(depth, p, e)
		}
		if e := mark.CheckProof(v, l, x, 0, api.Proof{}); e != want {
			t.Error(depth, e)
		}
	}
}

// TestWrongProofs is P6.1: proofs that are none are refused, for any mass.
func TestWrongProofs(t *testing.T) {
	v, l, x := example(), exampleLines(), exampleRoute().Legs[0]
	good, e := mark.Prove(v, l, x)
	mustHold(t, e)
	for _, change := range []func(p *api.Proof){
		func(p *api.Proof) { p.Bound-- },
		func(p *api.Proof) { p.Bound = math.MinInt },
		func(p *api.Proof) { p.Uses = nil },
		func(p *api.Proof) { p.Uses[0].Times++ },
		func(p *api.Proof) { p.Uses[0].Limit = -1 },
		func(p *api.Proof) { p.Uses[len(p.Uses)-1].Limit = 30 },
		func(p *api.Proof) { p.Uses = append(p.Uses, p.Uses[0]) },
		func(p *api.Proof) { slices.Reverse(p.Uses) },
		func(p *api.Proof) { p.Uses = p.Uses[1:] },
	} {
		p := api.Proof{Bound: good.Bound, Uses: slices.Clone(good.Uses)}
		change(&p)
		for _, mass := range []int{0, 190, 1000000000000} {
			if e := mark.CheckProof(v, l, x, mass, p); e != api.ErrProof {
				t.Error(p, mass, e)
			}
		}
	}
	for _, mass := range []int{-1, 1000000000001, math.MinInt, math.MaxInt} {
		if e := mark.CheckProof(v, l, x, mass, good); e != api.ErrMass {
			t.Error(mass, e)
		}
	}
}

// needed is the least number of litres, from so many on, that bear a mass.
func needed(from, mass, dense int) int {
	n := from
	for floorDiv(n*dense, 1000) >= mass {
		n--
	}
	for floorDiv(n*dense, 1000) < mass {
		n++
	}
	return n
}

// TestRandomProofs is P6.5: the proof of an answer Yes is accepted for the
// greatest mass; a proof that is accepted for a mass is right for all hulls.
func TestRandomProofs(t *testing.T) {
	yes, weak := 0, 0
	departures(t, 74, 500, func(r *rand.Rand, d departure) {
		answers, masses := d.answersOf(d.mass), massesOf(d.route, d.mass)
		for i, x := range d.route.Legs {
			if d.marks[i] == 0 {
				continue
			}
			p, e := mark.Prove(d.survey, d.lines, x)
			mustHold(t, e, d.survey, d.lines, x)
			if answers[i] == api.Yes {
				yes++
				mustHold(t, mark.CheckProof(d.survey, d.lines, x, masses[i].Hi, p), d.survey, d.lines, x)
			}
			least := d.displacementOf(d.marks[i], x.Dense).Lo
			for _, mass := range []int{max(least, 0), max(least+1, 0), max(least-1, 0), max(least+r.Intn(400)-200, 0)} {
				if e := mark.CheckProof(d.survey, d.lines, x, mass, p); (e == api.OK) != (mass <= least) || e != api.OK && e != api.ErrShown {
					t.Fatal(d.survey, d.lines, x, mass, e, least)
				}
			}
			weak += d.tryWeak(t, r, x, d.marks[i])
		}
	})
	if yes < 150 || weak < 100 {
		t.Error("too few of a kind:", yes, weak)
	}
}

// tryWeak examines a proof that shows less than the best one: that of the
// survey with less exact readings, which has the same limits but for what
// they allow. It returns how many masses the proof was accepted for.
func (d departure) tryWeak(t *testing.T, r *rand.Rand, x api.Leg, water int) int {
	t.Helper()
	w := api.What{Kind: api.WhatLitres, Water: water}
	loose := d.survey
	loose.Readings = slices.Clone(d.survey.Readings)
	for i := range loose.Readings {
		loose.Readings[i].Tolerance += r.Intn(2)
		loose.Readings[i].Value = max(loose.Readings[i].Value, loose.Readings[i].Tolerance)
	}
	p, e := offsets.Prove(loose, w, false)
	if e != api.OK {
		return 0
	}
	p.Bound = boundOf(t, d.survey, p) // the same uses, of the limits of the ship's survey
	_, divisor, e := offsets.Weights(d.survey.Space, w)
	mustHold(t, e)
	shown, accepted := floorDiv(-p.Bound, divisor), 0
	least := d.displacementOf(water, x.Dense).Lo
	for _, mass := range []int{0, max(least, 0), max(least-r.Intn(100), 0), max(floorDiv(shown*x.Dense.Lo, 1000), 0)} {
		want := api.OK
		if needed(shown, mass, x.Dense.Lo) > shown {
			want = api.ErrShown
		}
		if e := mark.CheckProof(d.survey, d.lines, x, mass, p); e != want || e == api.OK && mass > least {
			t.Fatal(d.survey, d.lines, x, mass, p, e, want)
		}
		if want == api.OK {
			accepted++
		}
	}
	return accepted
}

// boundOf is what the limits of a survey that a proof uses add up to.
func boundOf(t *testing.T, v api.Survey, p api.Proof) int {
	t.Helper()
	s, e := offsets.System(v)
	mustHold(t, e, v)
	sum := 0
	for _, u := range p.Uses {
		sum += u.Times * s.Limits[u.Limit].Most
	}
	return sum
}
