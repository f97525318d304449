package probe_test

import (
	"math"
	"slices"
	"testing"

	"moorsom/api"
	"moorsom/probe"
)

func TestValuesOfExample(t *testing.T) {
	for i, want := range []api.Range{{Lo: -1, Hi: 11}, {Lo: -1, Hi: 14}, {Lo: 0, Hi: 13}} {
		if r, e := probe.Values(example(8), exampleProbes()[i]); r != want || e != api.OK {
			t.Error(i, r, e)
		}
	}
	if r, e := probe.Values(free(1, 20000), api.Probe{Unknown: 1, Tolerance: 1000}); r != (api.Range{Lo: -21000, Hi: 21000}) || e != api.OK {
		t.Error(r, e)
	}
	for _, p := range []api.Probe{{}, {Unknown: 3}, {Unknown: 1, Tolerance: 1001}} {
		if r, e := probe.Values(example(8), p); r != (api.Range{}) || e != api.ErrProbe {
			t.Error(p, r, e)
		}
	}
}

func TestPossibleOfExample(t *testing.T) {
	l := exampleProbes()
	for _, c := range []struct {
		l    []api.Probe
		o    []int
		want bool
	}{
		{l[:2], []int{5, 11}, false}, {l[:2], []int{5, 9}, true}, // the chapter's
		{l[:2], []int{5, 10}, true}, {l[:2], []int{5, 3}, true}, {l[:2], []int{5, 2}, false},
		{l[:1], []int{-1}, true}, {l[:1], []int{-2}, false}, {l[:1], []int{11}, true}, {l[:1], []int{12}, false},
		{l[2:], []int{13}, true}, {l[2:], []int{14}, false}, {l[1:], []int{7, 8}, true}, {l[1:], []int{7, 9}, false},
		{nil, nil, true}, {nil, []int{}, true},
		{l[:1], []int{math.MaxInt}, false}, {l[:1], []int{math.MinInt}, false}, {l[:2], []int{5, math.MaxInt - 1}, false}, {l[:1], []int{math.MinInt + 1}, false},
	} {
		if is, e := probe.Possible(example(8), c.l, api.Outcome{Values: c.o}); is != c.want || e != api.OK {
			t.Error(c, is, e)
		}
	}
	for _, o := range [][]int{nil, {5}, {5, 9, 9}} {
		if is, e := probe.Possible(example(8), l[:2], api.Outcome{Values: o}); is || e != api.ErrOutcome {
			t.Error(o, is, e)
		}
	}
}

func TestAfterExample(t *testing.T) {
	q, l := example(8), exampleProbes()
	a, e := probe.After(q, l[:1], api.Outcome{Values: []int{5}})
	want := q
	want.System.Limits = append(slices.Clone(q.System.Limits), api.Limit{A: 0, B: 1, Most: 6, By: 90001}, api.Limit{A: 1, B: 0, Most: -4, By: 90001})
	if !sameAsk(a, want) || e != api.OK || widthOf(t, a) != 7 {
		t.Error(a, e)
	}
	a, e = probe.After(q, l[1:], api.Outcome{Values: []int{7, 8}})
	want.System.Limits = append(slices.Clone(q.System.Limits), api.Limit{A: 0, B: 2, Most: 8, By: 90001}, api.Limit{A: 2, B: 0, Most: -6, By: 90001},
		api.Limit{A: 0, B: 2, Most: 8, By: 90002}, api.Limit{A: 2, B: 0, Most: -8, By: 90002})
	if !sameAsk(a, want) || e != api.OK {
		t.Error(a, e)
	}
	if a, e := probe.After(q, nil, api.Outcome{}); !sameAsk(a, q) || e != api.OK {
		t.Error(a, e)
	}
	for _, o := range [][]int{nil, {5, 5}, {-2}, {12}, {math.MaxInt}, {math.MinInt}} {
		if a, e := probe.After(q, l[:1], api.Outcome{Values: o}); !sameAsk(a, api.Ask{}) || e != api.ErrOutcome {
			t.Error(o, a, e)
		}
	}
}

// TestAfterFarNumbers: a limit says no more than that a number is at most
// 20000, or at least -20000.
func TestAfterFarNumbers(t *testing.T) {
	p := []api.Probe{{Unknown: 1, Tolerance: 1000}}
	for _, c := range []struct{ value, up, down int }{
		{21000, 20000, -20000}, {19001, 20000, -18001}, {19000, 20000, -18000}, {18999, 19999, -17999}, {0, 1000, 1000},
		{-18999, -17999, 19999}, {-19000, -18000, 20000}, {-19001, -18001, 20000}, {-21000, -20000, 20000},
	} {
		o := api.Outcome{Values: []int{c.value}}
		a, e := probe.After(free(1, 20000), p, o)
		mustHold(t, e, c)
		want := []api.Limit{{A: 0, B: 1, Most: c.up, By: 90001}, {A: 1, B: 0, Most: c.down, By: 90001}}
		if !slices.Equal(a.System.Limits[2:], want) {
			t.Error(c, a)
		}
		mustHold(t, probe.CheckAsk(a), a)
		if is, e := probe.Possible(free(1, 20000), p, o); !is || e != api.OK {
			t.Error(c, is, e)
		}
	}
	for _, v := range []int{21001, -21001} {
		if is, e := probe.Possible(free(1, 20000), p, api.Outcome{Values: []int{v}}); is || e != api.OK {
			t.Error(v, is, e)
		}
	}
}

// TestAfterFullAsk: a question has room for the limits of what is told, or
// has not.
func TestAfterFullAsk(t *testing.T) {
	l := slices.Repeat(exampleProbes()[:1], 8)
	for _, c := range []struct {
		limits, probes int
		e              api.Errno
	}{
		{150, 0, api.OK}, {150, 1, api.ErrLong}, {149, 1, api.ErrLong}, {148, 1, api.OK}, {134, 8, api.OK}, {135, 8, api.ErrLong}, {150, 8, api.ErrLong},
	} {
		q, o := padded(example(8), c.limits), api.Outcome{Values: slices.Repeat([]int{5}, c.probes)}
		a, e := probe.After(q, l[:c.probes], o)
		if e != c.e || e != api.OK && !sameAsk(a, api.Ask{}) || e == api.OK && probe.CheckAsk(a) != api.OK {
			t.Error(c, e)
		}
		if is, e := probe.Possible(q, l[:c.probes], o); !is || e != api.OK {
			t.Error(c, is, e)
		}
		if c.probes > 0 { // an outcome that is not possible comes first
			o.Values[c.probes-1] = 12
			if is, e := probe.Possible(q, l[:c.probes], o); is || e != api.OK {
				t.Error(c, is, e)
			}
			if _, e := probe.After(q, l[:c.probes], o); e != api.ErrOutcome {
				t.Error(c, e)
			}
		}
	}
}

// TestOutcomes: of all outcomes of questions whose hulls are listed, those are
// possible that leave one, and what is behind them has those hulls.
func TestOutcomes(t *testing.T) {
	asks(t, 51, 150, 2, func(m maker, q listed, l []api.Probe) {
		for _, p := range l {
			if r, e := probe.Values(q.Ask, p); r != q.values(p) || e != api.OK {
				t.Fatal(q.Ask, p, r, e)
			}
		}
		for _, o := range q.outcomes(l) {
			left := q.left(l, o)
			if is, e := probe.Possible(q.Ask, l, o); is != (len(left) > 0) || e != api.OK {
				t.Fatal(q.Ask, l, o, is, e)
			}
			a, e := probe.After(q.Ask, l, o)
			switch {
			case len(left) == 0 && (e != api.ErrOutcome || !sameAsk(a, api.Ask{})):
				t.Fatal(q.Ask, l, o, a, e)
			case len(left) > 0 && (e != api.OK || !sameLists(hulls(a.System), left) || widthOf(t, a) != q.width(left)):
				t.Fatal(q.Ask, l, o, a, e)
			}
		}
	})
}
