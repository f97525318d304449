package probe_test

import (
	"math"
	"slices"
	"testing"

	"moorsom/api"
	"moorsom/probe"
)

// with is the question of the chapter with a change.
func with(change func(q *api.Ask)) api.Ask {
	q := example(8)
	change(&q)
	return q
}

// invalidAsks are questions with their errors.
func invalidAsks() map[api.Errno][]api.Ask {
	var none api.Limit
	system := func(many int, l ...api.Limit) api.Ask {
		return with(func(q *api.Ask) { q.System = api.System{Many: many, Limits: l} })
	}
	more := func(l ...api.Limit) api.Ask {
		return with(func(q *api.Ask) { q.System.Limits = append(q.System.Limits, l...) })
	}
	weights := func(w ...int) api.Ask { return with(func(q *api.Ask) { q.Weights = w }) }
	width := func(n int) api.Ask { return with(func(q *api.Ask) { q.Width = n }) }
	limits := example(8).System.Limits
	return map[api.Errno][]api.Ask{
		api.ErrSystem: {system(-1), system(65), system(math.MinInt), system(math.MaxInt, none)},
		api.ErrLimit:  {more(none), system(1, limits...), padded(more(none), 151), system(40, none), more(api.Limit{A: 1, B: 2, Most: 20001, By: 1})},
		api.ErrLong:   {system(32), system(64), padded(example(8), 151), padded(example(8), 400), padded(example(8), 401), padded(more(none), 401), free(32, 5)},
		api.ErrWeight: {
			weights(), weights(0), weights(0, 1), weights(0, 1, 1, 0), weights(0, 1800000000001, 0), weights(0, -1800000000000, 1),
			weights(1, 1, 1799999999999), weights(1800000000001, 0, 0), weights(0, math.MinInt, 0), weights(math.MaxInt, math.MaxInt, 2),
			weights(0, 3600000000000, 0), weights(0, 1800000000000, -1800000000000), weights(math.MinInt, math.MinInt, 0),
		},
		api.ErrAsk:   {width(-1), width(1000000000000000001), width(math.MinInt), width(math.MaxInt)},
		api.ErrClash: {more(api.Limit{A: 1, B: 2, Most: -1, By: 9}), more(between(1, 11, 12, 9)...)},
		api.ErrOpen:  {system(2, limits[1:]...), system(2, limits[0], limits[2], limits[3]), system(2), system(2, limits[:2]...), system(2, between(2, 0, 5, 1)...)},
	}
}

func TestCheckAsk(t *testing.T) {
	for e, l := range invalidAsks() {
		for _, q := range l {
			if got := probe.CheckAsk(q); got != e {
				t.Error(q, got, e)
			}
		}
	}
	for _, q := range []api.Ask{
		example(0), example(8), example(1000000000000000000), padded(example(8), 150), free(31, 20000), free(0, 5), loose(900000000000),
		with(func(q *api.Ask) { q.Weights = []int{0, 900000000000, -900000000000} }),
		with(func(q *api.Ask) { q.Weights = []int{1800000000000, 0, 0} }),
		with(func(q *api.Ask) { q.Weights = []int{-1, 1, -1799999999998} }),
		{Weights: []int{5}},
		{System: api.System{Many: 1}, Weights: []int{0, 0}},
	} {
		mustHold(t, probe.CheckAsk(q), q)
	}
}

func TestCheckProbes(t *testing.T) {
	q := example(8)
	for _, l := range [][]api.Probe{
		nil, {}, exampleProbes(), {{Unknown: 2, Tolerance: 1000}}, slices.Repeat(exampleProbes()[:1], 8),
	} {
		mustHold(t, probe.CheckProbes(q, l), l)
	}
	for _, p := range []api.Probe{
		{}, {Unknown: -1}, {Unknown: 3}, {Unknown: math.MinInt}, {Unknown: math.MaxInt},
		{Unknown: 1, Tolerance: -1}, {Unknown: 1, Tolerance: 1001}, {Unknown: 1, Tolerance: math.MaxInt}, {Unknown: 1, Tolerance: math.MinInt},
	} {
		for _, l := range [][]api.Probe{{p}, append(exampleProbes(), p), append(slices.Repeat([]api.Probe{p}, 7), exampleProbes()[0])} {
			if e := probe.CheckProbes(q, l); e != api.ErrProbe {
				t.Error(l, e)
			}
		}
		if e := probe.CheckProbes(q, append(slices.Repeat(exampleProbes(), 3), p)); e != api.ErrLong {
			t.Error(p, e)
		}
	}
	if e := probe.CheckProbes(q, slices.Repeat(exampleProbes(), 3)); e != api.ErrLong {
		t.Error(e)
	}
}

// TestProbedNumbers: an unknown can be probed where all its numbers are
// -20000 to 20000.
func TestProbedNumbers(t *testing.T) {
	chain := func(lo, more int) api.Ask { // the unknown 2 is from lo to 0, or from 0 to more, farther than the unknown 1
		l := append(between(1, -20000, 20000, 1), api.Limit{A: 1, B: 2, Most: more, By: 2}, api.Limit{A: 2, B: 1, Most: -lo, By: 2})
		return api.Ask{System: api.System{Many: 2, Limits: l}, Weights: []int{0, 0, 0}}
	}
	half := func(l ...api.Limit) api.Ask {
		return api.Ask{System: api.System{Many: 2, Limits: l}, Weights: []int{0, 0, 0}}
	}
	both := []api.Probe{{Unknown: 1}, {Unknown: 2}}
	for _, c := range []struct {
		q     api.Ask
		first bool
		e     api.Errno
	}{
		{chain(0, 0), true, api.OK}, {chain(0, 1), true, api.ErrProbe}, {chain(-1, 0), true, api.ErrProbe}, {chain(-1, -1), true, api.ErrProbe},
		{half(between(2, 0, 5, 1)...), false, api.ErrProbe}, {half(between(1, 0, 5, 1)...), true, api.ErrProbe}, {half(), false, api.ErrProbe},
		{half(append(between(1, 0, 5, 1), api.Limit{A: 1, B: 2, Most: 3, By: 1})...), true, api.ErrProbe},
		{half(append(between(1, 0, 5, 1), api.Limit{A: 2, B: 1, Most: 3, By: 1})...), true, api.ErrProbe},
		{loose(1), false, api.ErrProbe},
	} {
		mustHold(t, probe.CheckAsk(c.q), c.q)
		if e := probe.CheckProbes(c.q, both); e != c.e {
			t.Error(c.q, e, c.e)
		}
		if e := probe.CheckProbes(c.q, both[:1]); (e == api.OK) != c.first {
			t.Error(c.q, e)
		}
	}
}

func TestWidth(t *testing.T) {
	for _, c := range []struct {
		q     api.Ask
		width int
	}{
		{example(8), 23}, {loose(1), 3}, {loose(900000000000), 2700000000000}, {free(31, 20000), 1240000}, {api.Ask{Weights: []int{7}}, 0},
		{with(func(q *api.Ask) { q.Weights = []int{0, 900000000000, 900000000000} }), 20700000000000},
	} {
		if n, e := probe.Width(c.q); n != c.width || e != api.OK {
			t.Error(c.q, n, e)
		}
		for n, want := range map[int]bool{0: c.width == 0, c.width - 1: false, c.width: true, c.width + 1: true, 1000000000000000000: true} {
			if c.q.Width = n; n >= 0 {
				if settled, e := probe.Settled(c.q); settled != want || e != api.OK {
					t.Error(c.q, settled, e)
				}
			}
		}
	}
}

// TestGreatestWidth: a width may be more than any that a question can ask for.
func TestGreatestWidth(t *testing.T) {
	q := api.Ask{System: api.System{Many: 31}, Weights: make([]int, 32), Width: 1000000000000000000}
	for i := range 31 {
		q.System.Limits = append(q.System.Limits, api.Limit{A: i, B: i + 1, Most: 20000, By: 1}, api.Limit{A: i + 1, B: i, Most: 20000, By: 1})
	}
	q.Weights[31] = -1800000000000
	want := 2 * 31 * 20000 * 1800000000000
	settled, e := probe.Settled(q)
	if n := widthOf(t, q); n != want || settled || e != api.OK {
		t.Error(n, settled, e)
	}
	width, p, e := probe.Worst(q, nil)
	if width != want || e != api.OK {
		t.Error(width, e)
	}
	mustHold(t, probe.CheckWorst(q, nil, want, p))
	twins, _, e := probe.Show(q, nil)
	if n, e2 := probe.CheckTwins(q, nil, twins); n != want || max(e, e2) != api.OK {
		t.Error(n, e, e2)
	}
	if side, e := probe.Side(q, want/2); side != api.Unknown || e != api.OK {
		t.Error(side, e)
	}
}

// TestSide also has numbers that no sum comes near.
func TestSide(t *testing.T) {
	for at, want := range map[int]int{
		0: api.Reached, 24: api.Below, 5: api.Unknown, // the chapter's
		1: api.Unknown, 23: api.Unknown, -1: api.Reached, math.MinInt: api.Reached, math.MaxInt: api.Below,
	} {
		if side, e := probe.Side(example(8), at); side != want || e != api.OK {
			t.Error(at, side, e)
		}
	}
	asks(t, 41, 300, 0, func(m maker, q listed, _ []api.Probe) {
		r := q.sums(q.hulls)
		for at := r.Lo - 2; at <= r.Hi+2; at++ {
			want := api.Unknown
			switch {
			case at <= r.Lo:
				want = api.Reached
			case at > r.Hi:
				want = api.Below
			}
			if side, e := probe.Side(q.Ask, at); side != want || e != api.OK {
				t.Fatal(q.Ask, at, side, e)
			}
		}
		if n := widthOf(t, q.Ask); n != r.Hi-r.Lo {
			t.Fatal(q.Ask, n, r)
		}
		if settled, e := probe.Settled(q.Ask); settled != (r.Hi-r.Lo <= q.Width) || e != api.OK {
			t.Fatal(q.Ask, settled, e)
		}
	})
}
