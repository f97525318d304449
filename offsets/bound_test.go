package offsets_test

import (
	"math"
	"math/rand"
	"slices"
	"testing"

	"moorsom/api"
	"moorsom/offsets"
)

func TestExampleBounds(t *testing.T) {
	v := example()
	for _, c := range []struct {
		w    api.What
		want api.Range
	}{
		{at(0, 0), api.Range{Lo: 75, Hi: 105}},
		{at(1, 0), api.Range{Lo: 0, Hi: 175}},
		{at(1, 1), api.Range{Lo: 130, Hi: 305}},
		{api.What{Kind: api.WhatLitres, Water: 1}, api.Range{Lo: 190, Hi: 395}},
		{api.What{Kind: api.WhatPlane, Water: 1}, api.Range{Lo: 30, Hi: 51}},
		{api.What{Kind: api.WhatSection}, api.Range{Lo: 25, Hi: 31}},
	} {
		if r, e := offsets.Bound(v, c.w); r != c.want || e != api.OK {
			t.Error(c, r, e)
		}
		mustBeEnds(t, v, c.w)
	}
}

// mustBeEnds examines both ends of Bound by what shows them: a proof by its
// limits, and a hull by what it has to keep.
func mustBeEnds(t *testing.T, v api.Survey, w api.What) {
	t.Helper()
	r, e := offsets.Bound(v, w)
	mustHold(t, e, v, w)
	for _, high := range []bool{true, false} {
		end := endOf(r, high)
		weights, divisor := turnedWeights(v, w, high)
		p, e := offsets.Prove(v, w, high)
		shown := floorDiv(p.Bound, divisor)
		if !high {
			shown = floorDiv(-p.Bound, divisor)
		}
		if e != api.OK || !shows(systemOf(v), weights, p) || shown != end {
			t.Fatal("Prove", v, w, high, p, e, end)
		}
		h, e := offsets.Attain(v, w, high)
		if e != api.OK || !whole(h).keeps(v) || whole(h).value(v.Space, w) != end {
			t.Fatal("Attain", v, w, high, h, e, end)
		}
	}
}

// TestBounds holds Bound, Prove and Attain against each other for all
// quantities of many surveys.
func TestBounds(t *testing.T) {
	below := 0
	trueSurveys(t, 3, func(r *rand.Rand, f found) {
		m, _ := apart(systemOf(f.survey))
		for _, w := range whats(f.survey.Space) {
			got, e := offsets.Bound(f.survey, w)
			if w.Kind == api.WhatOffset {
				u := 1 + w.Station*len(f.survey.Space.Waters) + w.Water
				if want := (api.Range{Lo: -m[u][0], Hi: m[0][u]}); got != want || e != api.OK {
					t.Fatal(f.survey, w, got, e, want)
				}
			}
			if got.Lo < 0 {
				below++
			}
			if r.Intn(4) == 0 {
				mustBeEnds(t, f.survey, w)
			}
		}
	})
	if below < 20 {
		t.Error("too few quantities are below 0:", below)
	}
}

// TestNothingMeasured has spaces without readings: their sizes alone bound them.
func TestNothingMeasured(t *testing.T) {
	for _, fair := range []api.Fair{{}, {Along: 100, Up: 200}, {Along: api.MaxFair, Up: api.MaxFair}} {
		s := plainSpace(3, 3, fair) // all weights are above 0
		for _, compares := range [][]api.Compare{nil, comparisons(20)} {
			v := api.Survey{Space: s, Compares: compares}
			for _, c := range []struct {
				w  api.What
				hi int
			}{
				{at(2, 1), 20000},
				{api.What{Kind: api.WhatLitres, Water: 1}, 2 * 20000 * 2},
				{api.What{Kind: api.WhatLitres, Water: 2}, 2 * 20000 * 4},
				{api.What{Kind: api.WhatPlane}, 2 * 20 * 2 * 100},
				{api.What{Kind: api.WhatSection}, 2 * 20 * 2 * 100},
			} {
				if r, e := offsets.Bound(v, c.w); r != (api.Range{Hi: c.hi}) || e != api.OK {
					t.Error(fair, c, r, e)
				}
				mustBeEnds(t, v, c.w)
			}
		}
	}
}

// TestFair has one reading, and what the greatest and the least changes leave of it.
func TestFair(t *testing.T) {
	for _, c := range []struct {
		fair api.Fair
		want [2][2]api.Range
	}{
		{api.Fair{}, [2][2]api.Range{{{Lo: 490, Hi: 510}, {Lo: 490, Hi: 510}}, {{Lo: 490, Hi: 510}, {Lo: 490, Hi: 510}}}},
		{api.Fair{Along: 30}, [2][2]api.Range{{{Lo: 490, Hi: 510}, {Lo: 490, Hi: 510}}, {{Lo: 460, Hi: 540}, {Lo: 460, Hi: 540}}}},
		{api.Fair{Up: 7}, [2][2]api.Range{{{Lo: 490, Hi: 510}, {Lo: 483, Hi: 517}}, {{Lo: 490, Hi: 510}, {Lo: 483, Hi: 517}}}},
		{api.Fair{Along: 30, Up: 7}, [2][2]api.Range{{{Lo: 490, Hi: 510}, {Lo: 483, Hi: 517}}, {{Lo: 460, Hi: 540}, {Lo: 453, Hi: 547}}}},
		{api.Fair{Along: api.MaxFair, Up: api.MaxFair}, [2][2]api.Range{{{Lo: 490, Hi: 510}, {Hi: 20000}}, {{Hi: 20000}, {Hi: 20000}}}},
	} {
		v := api.Survey{Space: plainSpace(2, 2, c.fair), Readings: repeated(1, 1)}
		v.Compares = []api.Compare{{Source: 9, Tape: 1, To: 5}} // the tape does not err
		for i, row := range c.want {
			for k, want := range row {
				if r, e := offsets.Bound(v, at(i, k)); r != want || e != api.OK {
					t.Error(c.fair, i, k, r, e)
				}
			}
		}
	}
}

// TestTolerances has readings with the least and the greatest tolerance.
func TestTolerances(t *testing.T) {
	for _, c := range []struct {
		r    api.Reading
		want api.Range
	}{
		{api.Reading{Value: 500}, api.Range{Lo: 496, Hi: 503}},
		{api.Reading{Value: 0}, api.Range{Lo: 0, Hi: 3}},
		{api.Reading{Value: api.MaxBreadth}, api.Range{Lo: 19996, Hi: 20000}},
		{api.Reading{Value: 5000, Tolerance: api.MaxTolerance}, api.Range{Lo: 3996, Hi: 6003}},
		{api.Reading{Value: 19000, Tolerance: api.MaxTolerance}, api.Range{Lo: 17996, Hi: 20000}},
		{api.Reading{Value: 3, Tolerance: api.MaxTolerance}, api.Range{Lo: 0, Hi: 1006}},
	} {
		c.r.Source, c.r.Tape, c.r.Day = 11, 3, 40
		v := plus(api.Survey{Space: plainSpace(2, 2, api.Fair{Along: 50, Up: 50})}, c.r)
		v.Compares = []api.Compare{{Source: 12, Tape: 3, From: 40, To: 40, Lo: -3, Hi: 4}}
		if r, e := offsets.Bound(v, at(0, 0)); r != c.want || e != api.OK {
			t.Error(c, r, e)
		}
	}
}

// TestBelowZero has quantities with weights below 0, whose least sum is below 0 too.
func TestBelowZero(t *testing.T) {
	s := api.Space{Id: 1, Source: 1, Stations: []int{0, 1000, 4000}, Waters: []int{0, 3000, 4000}, Fair: api.Fair{Along: api.MaxFair, Up: api.MaxFair}}
	v := api.Survey{Space: s}
	for _, c := range []struct {
		w    api.What
		want api.Range
	}{
		{api.What{Kind: api.WhatPlane}, api.Range{Lo: -2667, Hi: 18666}},               // -24000 * 20000 / 180000 is -2666.7
		{api.What{Kind: api.WhatPlane, Water: 2}, api.Range{Lo: -2667, Hi: 18666}},     // 168000 * 20000 / 180000
		{api.What{Kind: api.WhatSection, Station: 2}, api.Range{Lo: -2667, Hi: 18666}}, // the same weights, turned round
		{api.What{Kind: api.WhatLitres, Water: 1}, api.Range{Lo: -80000, Hi: 560000}},  // 2 * 54000 * -24000 * 20000 / 648000000
		{api.What{Kind: api.WhatLitres, Water: 2}, api.Range{Lo: -248889, Hi: 888888}}, // 2 * 168000 * -24000 * 20000 / 648000000
		{at(1, 0), api.Range{Lo: 0, Hi: 20000}},
	} {
		if r, e := offsets.Bound(v, c.w); r != c.want || e != api.OK {
			t.Error(c, r, e)
		}
		mustBeEnds(t, v, c.w)
		mustBeShown(t, v, c.w)
	}
	h := api.Hull{Rows: [][]int{{20000, 0, 0}, {0, 0, 0}, {0, 0, 0}}}
	if n, e := offsets.Value(s, h, api.What{Kind: api.WhatPlane}); n != -2667 || e != api.OK {
		t.Error(n, e)
	}
}

// mustBeShown holds CheckProof against the ends: it accepts what Prove
// returns for them and for less, and no more.
func mustBeShown(t *testing.T, v api.Survey, w api.What) {
	t.Helper()
	r, _ := offsets.Bound(v, w)
	for _, high := range []bool{true, false} {
		p, e := offsets.Prove(v, w, high)
		mustHold(t, e, v, w)
		less, more := r.Hi-1, r.Hi+1
		if !high {
			less, more = r.Lo+1, r.Lo-1
		}
		mustHold(t, offsets.CheckProof(v, w, high, endOf(r, high), p), v, w)
		mustHold(t, offsets.CheckProof(v, w, high, more, p), v, w)
		for n, want := range map[int]bool{less: false, math.MaxInt: high, math.MinInt: !high} {
			e := offsets.CheckProof(v, w, high, n, p)
			if want && e != api.OK || !want && e != api.ErrShown {
				t.Error(v, w, high, n, e)
			}
		}
		// What is proved of one end proves nothing of the other one.
		if e := offsets.CheckProof(v, w, !high, endOf(r, !high), p); e != api.ErrProof {
			t.Error(v, w, high, e)
		}
	}
}

func TestProofsShowTheEnds(t *testing.T) {
	trueSurveys(t, 4, func(r *rand.Rand, f found) {
		all := whats(f.survey.Space)
		for range 3 {
			mustBeShown(t, f.survey, all[r.Intn(len(all))])
		}
	})
}

// changed is a proof with something else in it, which may be a proof or not.
func changed(r *rand.Rand, s api.System, p api.Proof) api.Proof {
	p.Uses = slices.Clone(p.Uses)
	add := func(limit, times int) {
		i := slices.IndexFunc(p.Uses, func(u api.Use) bool { return u.Limit >= limit })
		switch {
		case i < 0:
			p.Uses = append(p.Uses, api.Use{Limit: limit, Times: times})
		case p.Uses[i].Limit == limit:
			p.Uses[i].Times += times
		default:
			p.Uses = slices.Insert(p.Uses, i, api.Use{Limit: limit, Times: times})
		}
		p.Bound += times * s.Limits[limit].Most
	}
	switch r.Intn(6) {
	case 0: // both limits of two unknowns: still a proof, of more or as much
		i := r.Intn(len(s.Limits) / 2)
		add(2*i, 3)
		add(2*i+1, 3)
	case 1:
		add(r.Intn(len(s.Limits)), 1+r.Intn(3))
	case 2:
		p.Bound += r.Intn(3) - 1
	case 3:
		if len(p.Uses) > 0 {
			i := r.Intn(len(p.Uses))
			p.Uses = slices.Delete(p.Uses, i, i+1)
		}
	case 4:
		p.Uses = append(p.Uses, api.Use{Limit: r.Intn(len(s.Limits) + 2), Times: r.Intn(3)})
	}
	return p
}

// TestCheckProof holds CheckProof against the chapter for proofs that were
// changed, of true surveys and of false ones.
func TestCheckProof(t *testing.T) {
	accepted, refused := 0, 0
	trueSurveys(t, 5, func(r *rand.Rand, f found) {
		all := whats(f.survey.Space)
		w, high := all[r.Intn(len(all))], r.Intn(2) == 0
		p, e := offsets.Prove(f.survey, w, high)
		mustHold(t, e, f.survey, w)
		// A reading behind all the others puts its limits behind all the others: the proof stands, also if no hull keeps the survey.
		v := f.survey
		if days := daysOf(v); r.Intn(2) == 0 && len(days) > 0 {
			v = plus(v, api.Reading{Source: 5, Value: r.Intn(19000), Tape: days[0].Tape, Day: days[0].Day})
		}
		s := systemOf(v)
		weights, divisor := turnedWeights(v, w, high)
		for range 20 {
			q := changed(r, s, p)
			end := floorDiv(q.Bound, divisor)
			if !high {
				end = floorDiv(-q.Bound, divisor)
			}
			for _, n := range []int{end - 1, end, end + 1} {
				want := api.OK
				switch {
				case !shows(s, weights, q):
					want = api.ErrProof
				case high && n < end || !high && n > end:
					want = api.ErrShown
				}
				if e := offsets.CheckProof(v, w, high, n, q); e != want {
					t.Fatal(v, w, high, n, q, e, want)
				}
				if want == api.OK {
					accepted++
				} else {
					refused++
				}
				mustBeRight(t, f, v, w, high, n, want)
			}
		}
	})
	if accepted < 500 || refused < 500 {
		t.Error("too few proofs are accepted or refused:", accepted, refused)
	}
}

// mustBeRight is P3.3: what is proved of a survey holds for the hull of which it was made.
func mustBeRight(t *testing.T, f found, v api.Survey, w api.What, high bool, n int, e api.Errno) {
	t.Helper()
	if e != api.OK || !f.hull.keeps(v) {
		return
	}
	if got := f.hull.value(v.Space, w); high && got > n || !high && got < n {
		t.Fatal("a proof of what is not so:", v, w, high, n, got)
	}
}

func TestTape(t *testing.T) {
	v := example()
	for _, c := range []struct {
		d    api.TapeDay
		want api.Range
		e    api.Errno
	}{
		{api.TapeDay{Tape: 1, Day: 5}, api.Range{Lo: 5, Hi: 15}, api.OK},
		{api.TapeDay{Tape: 2, Day: 5}, api.Range{Lo: -15, Hi: 160}, api.OK},
		{api.TapeDay{Tape: 1, Day: 2}, api.Range{}, api.ErrNone},
		{api.TapeDay{Tape: 3, Day: 5}, api.Range{}, api.ErrNone},
		{api.TapeDay{Tape: 5, Day: 1}, api.Range{}, api.ErrNone},
		{api.TapeDay{}, api.Range{}, api.ErrNone},
		{api.TapeDay{Tape: math.MaxInt, Day: math.MinInt}, api.Range{}, api.ErrNone},
	} {
		if r, e := offsets.Tape(v, c.d); r != c.want || e != c.e {
			t.Error(c, r, e)
		}
		if c.e == api.OK {
			c.want, c.e = api.Range{}, api.ErrFalse
		}
		if r, e := offsets.Tape(falseExample(), c.d); r != c.want || e != c.e {
			t.Error("of a false survey:", c, r, e)
		}
	}
	// On the edges of the days of a comparison, and beyond them.
	for _, c := range []struct{ from, to, lo, hi int }{{0, 4, -1000, 1000}, {0, 5, 5, 7}, {5, 5, 5, 7}, {5, 9, 5, 7}, {6, 9, -1000, 1000}} {
		v := api.Survey{Space: plainSpace(2, 2, api.Fair{Along: 9, Up: 9}), Compares: []api.Compare{{Source: 21, Tape: 1, From: c.from, To: c.to, Lo: 5, Hi: 7}}}
		v = plus(v, api.Reading{Source: 11, Value: 5000, Tolerance: 10, Tape: 1, Day: 5})
		if r, e := offsets.Tape(v, api.TapeDay{Tape: 1, Day: 5}); r != (api.Range{Lo: c.lo, Hi: c.hi}) || e != api.OK {
			t.Error(c, r, e)
		}
	}
	// What one tape tells bounds another one that reads the same, and its own error on another day.
	v.Readings = []api.Reading{
		{Source: 11, Value: 100, Tape: 1, Day: 5}, {Source: 12, Value: 150, Tolerance: 2, Tape: 2, Day: 5}, {Source: 13, Value: 40, Tolerance: 1, Tape: 1, Day: 10},
	}
	for d, want := range map[api.TapeDay]api.Range{{Tape: 1, Day: 5}: {Lo: 5, Hi: 15}, {Tape: 2, Day: 5}: {Lo: 53, Hi: 67}, {Tape: 1, Day: 10}: {Lo: -56, Hi: -44}} {
		if r, e := offsets.Tape(v, d); r != want || e != api.OK {
			t.Error(d, r, e)
		}
	}
}

// TestErrorsOfTapes holds the errors of tapes against the greatest differences of the unknowns.
func TestErrorsOfTapes(t *testing.T) {
	trueSurveys(t, 6, func(_ *rand.Rand, f found) {
		m, _ := apart(systemOf(f.survey))
		first := len(f.survey.Space.Stations)*len(f.survey.Space.Waters) + 1
		for j, d := range daysOf(f.survey) {
			want := api.Range{Lo: -m[0][first+j], Hi: m[first+j][0]}
			if r, e := offsets.Tape(f.survey, d); r != want || e != api.OK {
				t.Fatal(f.survey, d, r, e, want)
			}
		}
	})
}

// TestGreatSurveys has the greatest numbers of unknowns and limits, and the greatest weights.
func TestGreatSurveys(t *testing.T) {
	s := api.Space{Id: api.MaxSource, Source: api.MaxSource, Fair: api.Fair{Along: 200, Up: 700}}
	s.Stations = []int{0, 1, 4, 24999, 99985, 99988, 99996, 99999, api.MaxAlong}
	s.Waters = []int{0, 3750, 15000 - 12, 15000 - 9, 15000 - 5, 15000 - 4, api.MaxUp}
	great := api.Survey{Space: s, Readings: repeated(26, 1)}
	for i := range great.Readings {
		x := &great.Readings[i]
		x.Station, x.Water, x.Tolerance = i%9, i%7, 900
	}
	for _, v := range []api.Survey{great, {Space: plainSpace(9, 5, api.Fair{Along: 40, Up: 90}), Readings: repeated(60, 1), Compares: comparisons(18)}} {
		for _, w := range whats(v.Space) {
			mustBeEnds(t, v, w)
		}
		w := api.What{Kind: api.WhatLitres, Water: len(v.Space.Waters) - 1}
		mustBeShown(t, v, w)
	}
}
