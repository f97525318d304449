package probe_test

import (
	"slices"
	"testing"

	"moorsom/api"
	"moorsom/probe"
)

// TestWorstOutcomes is P9.2: no outcome leaves more than Worst, and that which
// Show tells leaves just so much.
func TestWorstOutcomes(t *testing.T) {
	asks(t, 91, 150, 2, func(m maker, q listed, l []api.Probe) {
		worst, widest := worstOf(t, q.Ask, l), 0
		for _, o := range q.outcomes(l) {
			if a, e := probe.After(q.Ask, l, o); e == api.OK {
				widest = max(widest, widthOf(t, a))
			}
		}
		_, o := shown(t, q.Ask, l)
		is, e1 := probe.Possible(q.Ask, l, o)
		a, e2 := probe.After(q.Ask, l, o)
		mustHold(t, max(e1, e2), q.Ask, l, o)
		if !is || widthOf(t, a) != worst || widest != worst {
			t.Fatal(q.Ask, l, o, worst, widest)
		}
	})
	// So it is with many probes, of which not all outcomes are tried.
	asks(t, 92, 150, 8, func(m maker, q listed, l []api.Probe) {
		worst := worstOf(t, q.Ask, l)
		_, o := shown(t, q.Ask, l)
		a, e := probe.After(q.Ask, l, o)
		mustHold(t, e, q.Ask, l, o)
		if widthOf(t, a) != worst {
			t.Fatal(q.Ask, l, o, worst)
		}
		for range 30 {
			o := m.told(q.hulls[m.Intn(len(q.hulls))], l)
			a, e := probe.After(q.Ask, l, o)
			mustHold(t, e, q.Ask, l, o)
			if widthOf(t, a) > worst {
				t.Fatal(q.Ask, l, o, worst)
			}
		}
	})
}

// A real hull has numbers that are parts of so many.
type real struct {
	x    []int
	many int
}

// real is one somewhere between three hulls of whole numbers: so it keeps the system.
func (m maker) real(hulls [][]int) real {
	r := real{x: make([]int, len(hulls[0]))}
	for range 3 {
		share, x := m.Intn(3), hulls[m.Intn(len(hulls))]
		if r.many == 0 {
			share++
		}
		r.many += share
		for i, n := range x {
			r.x[i] += share * n
		}
	}
	return r
}

// tells are the whole numbers that a probe may tell of a real hull; none if
// Lo is above Hi.
func (r real) tells(p api.Probe) api.Range {
	told := api.Range{Lo: 1000, Hi: -1000}
	for v := -100; v <= 100; v++ {
		apart := r.x[p.Unknown] - v*r.many
		if max(apart, -apart) <= p.Tolerance*r.many {
			told.Lo, told.Hi = min(told.Lo, v), max(told.Hi, v)
		}
	}
	return told
}

// keeps reports whether a real hull keeps a system.
func (r real) keeps(s api.System) bool {
	return !slices.ContainsFunc(s.Limits, func(l api.Limit) bool { return r.x[l.B]-r.x[l.A] > l.Most*r.many })
}

// told is an outcome that probes may tell of a real hull, and whether there is one.
func (m maker) toldOf(r real, l []api.Probe) (api.Outcome, bool) {
	var o api.Outcome
	for _, p := range l {
		told := r.tells(p)
		if told.Lo > told.Hi {
			return api.Outcome{}, false
		}
		o.Values = append(o.Values, told.Lo+m.Intn(told.Hi-told.Lo+1))
	}
	return o, true
}

// TestTrueHulls is P9.4.
func TestTrueHulls(t *testing.T) {
	parted := 0
	asks(t, 93, 400, 4, func(m maker, q listed, l []api.Probe) {
		for range 20 {
			r := m.real(q.hulls)
			o, told := m.toldOf(r, l)
			if !told {
				continue
			}
			if r.many > 1 && len(l) > 0 && r.x[l[0].Unknown]%r.many != 0 {
				parted++
			}
			is, e := probe.Possible(q.Ask, l, o)
			if !is || e != api.OK {
				t.Fatal(q.Ask, l, r, o, e)
			}
			for i, p := range l {
				if v, e := probe.Values(q.Ask, p); o.Values[i] < v.Lo || o.Values[i] > v.Hi || e != api.OK {
					t.Fatal(q.Ask, p, r, o, v, e)
				}
			}
			a, e := probe.After(q.Ask, l, o)
			if !r.keeps(a.System) || e != api.OK {
				t.Fatal(q.Ask, l, r, o, a, e)
			}
		}
	})
	if parted < 500 {
		t.Error("too few hulls of numbers that are not whole", parted)
	}
}

// TestMoreIsNarrower is P9.5.
func TestMoreIsNarrower(t *testing.T) {
	asks(t, 94, 300, 7, func(m maker, q listed, l []api.Probe) {
		if n := worstOf(t, q.Ask, nil); n != widthOf(t, q.Ask) {
			t.Fatal(q.Ask, n)
		}
		worst := worstOf(t, q.Ask, l)
		for _, p := range m.probes(q.Ask, 1) {
			if n := worstOf(t, q.Ask, append(slices.Clone(l), p)); n > worst {
				t.Fatal(q.Ask, l, p, n, worst)
			}
		}
		less := slices.Clone(l)
		for i := range less {
			less[i].Tolerance -= min(m.Intn(2), less[i].Tolerance)
		}
		if n := worstOf(t, q.Ask, less); n > worst {
			t.Fatal(q.Ask, l, less, n, worst)
		}
		var all []api.Probe
		for i, w := range q.Weights[1:] {
			if w != 0 {
				all = append(all, api.Probe{Unknown: 1 + i})
			}
		}
		if n := worstOf(t, q.Ask, all); n != 0 {
			t.Fatal(q.Ask, all, n)
		}
	})
}

// TestOneAfterTheOther is P9.6.
func TestOneAfterTheOther(t *testing.T) {
	asks(t, 95, 300, 4, func(m maker, q listed, some []api.Probe) {
		others := m.probes(q.Ask, 4)
		all := worstOf(t, q.Ask, slices.Concat(some, others))
		for range 5 {
			o := m.told(q.hulls[m.Intn(len(q.hulls))], some)
			a, e := probe.After(q.Ask, some, o)
			mustHold(t, e, q.Ask, some, o)
			if n := worstOf(t, a, others); n > all {
				t.Fatal(q.Ask, some, others, o, n, all)
			}
		}
	})
}

// TestSides is P9.7.
func TestSides(t *testing.T) {
	asks(t, 96, 300, 3, func(m maker, q listed, l []api.Probe) {
		r := q.sums(q.hulls)
		for at := r.Lo - 1; at <= r.Hi+1; at++ {
			before, e1 := probe.Side(q.Ask, at)
			o := m.told(q.hulls[m.Intn(len(q.hulls))], l)
			a, e2 := probe.After(q.Ask, l, o)
			after, e3 := probe.Side(a, at)
			mustHold(t, max(e1, e2, e3), q.Ask, l, o)
			if before != api.Unknown && after != before {
				t.Fatal(q.Ask, l, o, at, before, after)
			}
		}
	})
}
