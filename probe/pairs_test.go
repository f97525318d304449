package probe_test

import (
	"math"
	"math/rand"
	"slices"
	"testing"

	"moorsom/api"
	"moorsom/bound"
	"moorsom/probe"
)

// thoughtPairs are those of the chapter, limit by limit.
func thoughtPairs(q api.Ask, l []api.Probe) (api.System, []int) {
	n := q.System.Many
	s, w := api.System{Many: n + n}, make([]int, 1+n+n)
	for _, x := range q.System.Limits {
		s.Limits = append(s.Limits, x)
	}
	for _, x := range q.System.Limits {
		if x.A > 0 {
			x.A += n
		}
		if x.B > 0 {
			x.B += n
		}
		s.Limits = append(s.Limits, x)
	}
	for i, p := range l {
		u, t := p.Unknown, p.Tolerance
		s.Limits = append(s.Limits, api.Limit{A: u, B: n + u, Most: t + t, By: 90001 + i}, api.Limit{A: n + u, B: u, Most: t + t, By: 90001 + i})
	}
	for i := 1; i <= n; i++ {
		w[i], w[n+i] = -q.Weights[i], q.Weights[i]
	}
	return s, w
}

func TestPairsOfExample(t *testing.T) {
	q := example(8)
	q.Weights = []int{9, 1, -2}
	s, w, e := probe.Pairs(q, exampleProbes()[1:])
	want := []api.Limit{
		{A: 0, B: 1, Most: 10, By: 1}, {A: 1, B: 0, Most: 0, By: 1}, {A: 1, B: 2, Most: 3, By: 2}, {A: 2, B: 1, Most: 0, By: 2},
		{A: 0, B: 3, Most: 10, By: 1}, {A: 3, B: 0, Most: 0, By: 1}, {A: 3, B: 4, Most: 3, By: 2}, {A: 4, B: 3, Most: 0, By: 2},
		{A: 2, B: 4, Most: 2, By: 90001}, {A: 4, B: 2, Most: 2, By: 90001}, {A: 2, B: 4, Most: 0, By: 90002}, {A: 4, B: 2, Most: 0, By: 90002},
	}
	if s.Many != 4 || !slices.Equal(s.Limits, want) || !slices.Equal(w, []int{0, -1, 2, 1, -2}) || e != api.OK {
		t.Error(s, w, e)
	}
	s, w, e = probe.Pairs(api.Ask{Weights: []int{-7}}, nil)
	if s.Many != 0 || len(s.Limits) != 0 || !slices.Equal(w, []int{0}) || e != api.OK {
		t.Error(s, w, e)
	}
}

func TestPairs(t *testing.T) {
	same := func(q api.Ask, l []api.Probe) {
		s, w, e := probe.Pairs(q, l)
		want, weights := thoughtPairs(q, l)
		if !sameSystem(s, want) || !slices.Equal(w, weights) || e != api.OK {
			t.Fatal(q, l, s, w, e)
		}
	}
	asks(t, 61, 300, 8, func(m maker, q listed, l []api.Probe) { same(q.Ask, l) })
	r := rand.New(rand.NewSource(62))
	for range 9 {
		q, l := large(r)
		same(q, l)
	}
}

func TestWorstOfExample(t *testing.T) {
	l := exampleProbes()
	for _, c := range []struct {
		l    []api.Probe
		want int
	}{
		{nil, 23}, {l[:1], 7}, {l[1:2], 7}, {l[2:], 3}, {[]api.Probe{l[0], l[2]}, 2}, {l, 2}, {l[:2], 4},
		{[]api.Probe{{Unknown: 1}, {Unknown: 2}}, 0},
	} {
		n, p, e := probe.Worst(example(8), c.l)
		if n != c.want || p.Bound != c.want || e != api.OK {
			t.Error(c, n, p, e)
		}
		mustHold(t, probe.CheckWorst(example(8), c.l, n, p), c)
	}
}

// TestWorst: the greatest width is that of two hulls that are listed.
func TestWorst(t *testing.T) {
	asks(t, 63, 400, 4, func(m maker, q listed, l []api.Probe) {
		n, p, e := probe.Worst(q.Ask, l)
		if n != q.worst(l) || p.Bound != n || e != api.OK {
			t.Fatal(q.Ask, l, n, p, e)
		}
		s, w := thoughtPairs(q.Ask, l)
		mustHold(t, bound.CheckProof(s, w, p), q.Ask, l, p)
	})
}

// TestCheckWorst: widths that are not less than a proof's bound.
func TestCheckWorst(t *testing.T) {
	q, l := example(8), exampleProbes()[:1]
	n, p, e := probe.Worst(q, l)
	mustHold(t, e)
	for width, want := range map[int]api.Errno{
		n: api.OK, n + 1: api.OK, math.MaxInt: api.OK, n - 1: api.ErrWide, 0: api.ErrWide, -1: api.ErrWide, math.MinInt: api.ErrWide,
	} {
		if e := probe.CheckWorst(q, l, width, p); e != want {
			t.Error(width, e, want)
		}
	}
	// A proof of more: that of no probe, in which their limits are not used.
	_, none, e := probe.Worst(q, nil)
	mustHold(t, e)
	for width, want := range map[int]api.Errno{23: api.OK, 22: api.ErrWide, n: api.ErrWide} {
		if e := probe.CheckWorst(q, l, width, none); e != want {
			t.Error(width, e, want)
		}
	}
	for i, wrong := range []api.Proof{
		{}, {Bound: n}, {Bound: n - 1, Uses: p.Uses}, {Bound: n + 1, Uses: p.Uses}, {Bound: n, Uses: p.Uses[1:]},
		{Bound: n, Uses: append(slices.Clone(p.Uses), p.Uses[0])}, {Bound: 0, Uses: []api.Use{{Limit: 10, Times: 1}}},
	} {
		for _, width := range []int{n, n - 1, math.MaxInt, math.MinInt} {
			if e := probe.CheckWorst(q, l, width, wrong); e != api.ErrProof {
				t.Error(i, width, e)
			}
		}
	}
	// What rests on a probe does not stand without it, nor on another one.
	for _, other := range [][]api.Probe{nil, exampleProbes()[1:2], exampleProbes()[2:]} {
		if e := probe.CheckWorst(q, other, math.MaxInt, p); e != api.ErrProof {
			t.Error(other, e)
		}
	}
}

// TestNoLesserProof: no proof is accepted whose bound is less than the
// greatest width, whatever limits it uses.
func TestNoLesserProof(t *testing.T) {
	accepted := 0
	asks(t, 64, 300, 3, func(m maker, q listed, l []api.Probe) {
		n, p, e := probe.Worst(q.Ask, l)
		mustHold(t, e)
		s, _ := thoughtPairs(q.Ask, l)
		for range 30 {
			other := api.Proof{Uses: slices.Clone(p.Uses)}
			for i := range other.Uses {
				if m.Intn(3) == 0 {
					other.Uses[i].Times += m.Intn(3) - 1
				}
			}
			if len(s.Limits) > 0 && m.Intn(2) == 0 {
				other.Uses = append(other.Uses, api.Use{Limit: m.Intn(len(s.Limits)), Times: 1 + m.Intn(2)})
			}
			for _, u := range other.Uses {
				other.Bound += u.Times * s.Limits[u.Limit].Most
			}
			if probe.CheckWorst(q.Ask, l, math.MaxInt, other) == api.OK {
				accepted++
				if other.Bound < n || probe.CheckWorst(q.Ask, l, n-1, other) != api.ErrWide {
					t.Fatal(q.Ask, l, other, n)
				}
			}
		}
	})
	if accepted < 500 {
		t.Error("too few proofs", accepted)
	}
}
