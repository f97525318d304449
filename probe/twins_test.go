package probe_test

import (
	"math"
	"math/rand"
	"slices"
	"testing"

	"moorsom/api"
	"moorsom/probe"
)

// isPoint reports whether a list is a point that keeps a system.
func isPoint(s api.System, x []int) bool {
	if len(x) != s.Many+1 || x[0] != 0 {
		return false
	}
	return !slices.ContainsFunc(s.Limits, func(l api.Limit) bool { return x[l.B]-x[l.A] > l.Most })
}

// shown asks for twins with the greatest width and examines them.
func shown(t *testing.T, q api.Ask, l []api.Probe) (api.Twins, api.Outcome) {
	t.Helper()
	twins, o, e := probe.Show(q, l)
	mustHold(t, e, q, l)
	width := sum(q.Weights, twins.B) - sum(q.Weights, twins.A)
	if !isPoint(q.System, twins.A) || !isPoint(q.System, twins.B) || !alike(l, twins.A, twins.B) || width != worstOf(t, q, l) {
		t.Fatal(q, l, twins, width)
	}
	if n, e := probe.CheckTwins(q, l, twins); n != width || e != api.OK {
		t.Fatal(q, l, twins, n, e)
	}
	if met, e := probe.Meeting(l, twins); !slices.Equal(met.Values, o.Values) || e != api.OK {
		t.Fatal(q, l, twins, o, met, e)
	}
	return twins, o
}

func TestShow(t *testing.T) {
	l := exampleProbes()
	for _, l := range [][]api.Probe{nil, l[:1], l[1:2], l[2:], l} {
		_, o := shown(t, example(8), l)
		if len(o.Values) != len(l) {
			t.Error(l, o)
		}
	}
	shown(t, api.Ask{Weights: []int{5}}, nil)
	shown(t, loose(900000000000), nil)
	asks(t, 71, 400, 8, func(m maker, q listed, l []api.Probe) { shown(t, q.Ask, l) })
}

// TestLargeAsks: twins attain what a proof shows to be the greatest width, so
// that both are right.
func TestLargeAsks(t *testing.T) {
	r := rand.New(rand.NewSource(72))
	for range 20 {
		q, l := large(r)
		n, p, e := probe.Worst(q, l)
		mustHold(t, e)
		mustHold(t, probe.CheckWorst(q, l, n, p))
		twins, o := shown(t, q, l)
		if is, e := probe.Possible(q, l, o); !is || e != api.OK {
			t.Error(o, is, e)
		}
		if got, e := probe.CheckTwins(q, l, twins); got != n || e != api.OK || n <= 0 {
			t.Error(n, got, e)
		}
		q.Width = worstOf(t, q, l[5:])
		pick, e := probe.Fewest(q, l)
		mustHold(t, e)
		mustHold(t, probe.CheckPick(q, l, pick))
		if pick.Width != worstOf(t, q, of(l, pick.Probes)) || pick.Width > q.Width || q.Width < n {
			t.Error(pick.Probes, pick.Width, n)
		}
	}
}

func TestCheckTwinsOfExample(t *testing.T) {
	q, l := example(8), exampleProbes()
	if n, e := probe.CheckTwins(q, l[:1], exampleTwins()); n != 7 || e != api.OK {
		t.Error(n, e)
	}
	if n, e := probe.CheckTwins(q, l[2:], exampleTwins()); n != 0 || e != api.ErrOutcome {
		t.Error(n, e)
	}
	turned := api.Twins{A: exampleTwins().B, B: exampleTwins().A}
	if n, e := probe.CheckTwins(q, l[:1], turned); n != -7 || e != api.OK {
		t.Error(n, e)
	}
	for _, x := range [][]int{
		nil, {0}, {0, 4}, {0, 4, 4, 0}, {1, 4, 4}, {-1, 4, 4}, {0, 11, 11}, {0, -1, 0}, {0, 4, 8}, {0, 4, 3},
		{0, math.MinInt, math.MinInt}, {0, math.MaxInt, math.MinInt}, {0, 1000000001, 1000000001},
	} {
		for _, twins := range []api.Twins{{A: x, B: []int{0, 4, 4}}, {A: []int{0, 4, 4}, B: x}, {A: x, B: x}} {
			for _, l := range [][]api.Probe{nil, l} {
				if n, e := probe.CheckTwins(q, l, twins); n != 0 || e != api.ErrPoint {
					t.Error(twins, n, e)
				}
			}
		}
	}
}

// TestPartedTwins: a probe parts what differs by more than twice its tolerance.
func TestPartedTwins(t *testing.T) {
	q := free(2, 20000)
	for tolerance := range 4 {
		l := []api.Probe{{Unknown: 2, Tolerance: 1000}, {Unknown: 1, Tolerance: tolerance}}
		for apart := -8; apart <= 8; apart++ {
			want, width := api.OK, apart
			if max(apart, -apart) > 2*tolerance {
				want, width = api.ErrOutcome, 0
			}
			twins := api.Twins{A: []int{0, 3, 5}, B: []int{0, 3 + apart, 5}}
			if n, e := probe.CheckTwins(q, l, twins); n != width || e != want {
				t.Error(l, twins, n, e)
			}
			if o, e := probe.Meeting(l, twins); e != want || e == api.OK && len(o.Values) != 2 || e != api.OK && len(o.Values) != 0 {
				t.Error(l, twins, o, e)
			}
		}
	}
	far := api.Twins{A: []int{0, -20000, 0}, B: []int{0, 20000, 0}}
	if n, e := probe.CheckTwins(q, []api.Probe{{Unknown: 2}}, far); n != 40000 || e != api.OK {
		t.Error(n, e)
	}
	if n, e := probe.CheckTwins(q, []api.Probe{{Unknown: 1, Tolerance: 1000}}, far); n != 0 || e != api.ErrOutcome {
		t.Error(n, e)
	}
}

// TestFarTwins: unknowns that are tied to each other alone are as far from 0
// as points may be, where a product with a weight is more than any int.
func TestFarTwins(t *testing.T) {
	weight := 900000000000
	for _, twins := range []api.Twins{
		{A: []int{0, -1000000000, -999999999}, B: []int{0, 999999996, 1000000000}},
		{A: []int{0, 999999999, 1000000000}, B: []int{0, -1000000000, -999999996}},
		{A: []int{0, 1281000, 1281001}, B: []int{0, 1281000, 1281004}},
	} {
		if n, e := probe.CheckTwins(loose(weight), nil, twins); n != 3*weight || e != api.OK {
			t.Error(twins, n, e)
		}
	}
	// So they may be in a pick.
	q, l := loose(1), []api.Probe{{Unknown: 3}}
	q.System = api.System{Many: 3, Limits: append(q.System.Limits, between(3, 0, 5, 3)...)}
	q.Weights, q.Width = append(q.Weights, 1), 3
	pick, e := probe.Fewest(q, l)
	if !slices.Equal(pick.Probes, []int{0}) || pick.Width != 3 || e != api.OK {
		t.Error(pick, e)
	}
	pick.Fails = []api.Twins{{A: []int{0, 999999999, 1000000000, 0}, B: []int{0, -1000000000, -999999996, 5}}}
	mustHold(t, probe.CheckPick(q, l, pick))
	q.Width = 2
	if _, e := probe.Fewest(q, l); e != api.ErrWide {
		t.Error(e)
	}
}

func TestMeeting(t *testing.T) {
	p := func(tolerance int) []api.Probe { return []api.Probe{{Unknown: 1, Tolerance: tolerance}} }
	if o, e := probe.Meeting(exampleProbes()[:1], exampleTwins()); !slices.Equal(o.Values, []int{5}) || e != api.OK {
		t.Error(o, e)
	}
	for _, c := range []struct{ a, b, tolerance, want int }{
		{4, 7, 2, 5}, {7, 4, 2, 5}, {-4, -7, 2, -6}, {-1, 0, 1, -1}, {0, -1, 1, -1}, {-3, 2, 3, -1}, {5, 5, 0, 5},
		{1280000, 1279999, 1, 1279999}, {-1280000, -1279999, 1, -1280000}, {1280000, 1278000, 1000, 1279000},
	} {
		twins := api.Twins{A: []int{0, c.a}, B: []int{0, c.b}}
		if o, e := probe.Meeting(p(c.tolerance), twins); !slices.Equal(o.Values, []int{c.want}) || e != api.OK {
			t.Error(c, o, e)
		}
	}
	// The unknown 0 and those that are not probed may be anything.
	twins := api.Twins{A: []int{5, 1, math.MinInt, 2}, B: []int{math.MaxInt, 2, 7, 2}}
	o, e := probe.Meeting([]api.Probe{{Unknown: 3}, {Unknown: 1, Tolerance: 1}, {Unknown: 3}}, twins)
	if !slices.Equal(o.Values, []int{2, 1, 2}) || e != api.OK {
		t.Error(o, e)
	}
	for _, twins := range []api.Twins{{}, {A: []int{7}, B: []int{8}}, {A: []int{7, 8, 9}, B: []int{0, 0, 0}}} {
		if o, e := probe.Meeting(nil, twins); len(o.Values) != 0 || e != api.OK {
			t.Error(o, e)
		}
	}
	// Any number of probes may be met.
	if o, e := probe.Meeting(slices.Repeat(p(1), 20), exampleTwins()); len(o.Values) != 20 || e != api.OK {
		t.Error(o, e)
	}
}

// TestMeetingErrors: probe by probe, the first one with an error decides.
func TestMeetingErrors(t *testing.T) {
	far, low := 1280001, -1280001
	twins := api.Twins{A: []int{0, 4, far, 4, low, 9, math.MinInt, 5, math.MaxInt}, B: []int{0, 6, 4, far, 4, 4, math.MaxInt, low, math.MinInt}}
	probes := map[api.Errno][]api.Probe{
		api.ErrProbe: {
			{}, {Unknown: -1, Tolerance: 9}, {Unknown: 9}, {Unknown: math.MaxInt}, {Unknown: math.MinInt}, {Unknown: 1, Tolerance: -1},
			{Unknown: 1, Tolerance: 1001}, {Unknown: 2, Tolerance: -1}, {Unknown: 5, Tolerance: math.MinInt}, {Unknown: 6, Tolerance: math.MaxInt},
		},
		api.ErrPoint:   {{Unknown: 2}, {Unknown: 3, Tolerance: 1000}, {Unknown: 4}, {Unknown: 6}, {Unknown: 7}, {Unknown: 8}},
		api.ErrOutcome: {{Unknown: 5}, {Unknown: 5, Tolerance: 2}, {Unknown: 1}},
	}
	for e, l := range probes {
		for _, p := range l {
			for _, behind := range slices.Concat(probes[api.ErrProbe], probes[api.ErrPoint], probes[api.ErrOutcome]) {
				o, got := probe.Meeting([]api.Probe{{Unknown: 1, Tolerance: 1}, p, behind}, twins)
				if got != e || len(o.Values) != 0 {
					t.Error(p, behind, o, got, e)
				}
			}
			uneven := api.Twins{A: twins.A, B: twins.B[1:]}
			if o, got := probe.Meeting([]api.Probe{p}, uneven); got != api.ErrPoint || len(o.Values) != 0 {
				t.Error(p, o, got)
			}
		}
	}
	for _, uneven := range []api.Twins{{A: []int{0}}, {B: []int{0}}, {A: []int{0, 4, 4}, B: []int{0, 4}}, {A: []int{0, 4}, B: []int{0, 4, 4}}} {
		for _, l := range [][]api.Probe{nil, {{Unknown: 1}}, {{Unknown: -1}}} {
			if o, e := probe.Meeting(l, uneven); e != api.ErrPoint || len(o.Values) != 0 {
				t.Error(l, uneven, o, e)
			}
		}
	}
}
