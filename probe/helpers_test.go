package probe_test

import (
	"math/rand"
	"slices"
	"testing"

	"moorsom/api"
	"moorsom/probe"
)

// between are the limits that hold an unknown between two numbers.
func between(unknown, lo, hi, by int) []api.Limit {
	return []api.Limit{{A: 0, B: unknown, Most: hi, By: by}, {A: unknown, B: 0, Most: -lo, By: by}}
}

// example is the question of the chapter, with a width.
func example(width int) api.Ask {
	limits := append(between(1, 0, 10, 1), api.Limit{A: 1, B: 2, Most: 3, By: 2}, api.Limit{A: 2, B: 1, Most: 0, By: 2})
	return api.Ask{System: api.System{Many: 2, Limits: limits}, Weights: []int{0, 1, 1}, Width: width}
}

// exampleProbes are those of the chapter.
func exampleProbes() []api.Probe {
	return []api.Probe{{Unknown: 1, Tolerance: 1}, {Unknown: 2, Tolerance: 1}, {Unknown: 2, Tolerance: 0}}
}

// exampleTwins are those of the chapter.
func exampleTwins() api.Twins { return api.Twins{A: []int{0, 4, 4}, B: []int{0, 6, 9}} }

// loose is a question whose unknowns are tied to each other, and not to the
// unknown 0: the second one is 1 to 4 more than the first one.
func loose(weight int) api.Ask {
	limits := []api.Limit{{A: 1, B: 2, Most: 4, By: 1}, {A: 2, B: 1, Most: -1, By: 2}}
	return api.Ask{System: api.System{Many: 2, Limits: limits}, Weights: []int{0, -weight, weight}, Width: 5}
}

// free is a question of so many unknowns, each between -size and size, that
// asks for their sum.
func free(many, size int) api.Ask {
	q := api.Ask{System: api.System{Many: many}, Weights: make([]int, many+1)}
	for i := range many {
		q.System.Limits = append(q.System.Limits, between(i+1, -size, size, 1)...)
		q.Weights[i+1] = 1
	}
	return q
}

// padded is a question with so many limits: the first one again and again.
func padded(q api.Ask, limits int) api.Ask {
	l := slices.Clone(q.System.Limits)
	for len(l) < limits {
		l = append(l, l[0])
	}
	q.System.Limits = l
	return q
}

// large is a question with as many unknowns, limits and weights as there may
// be, and as many probes.
func large(r *rand.Rand) (api.Ask, []api.Probe) {
	x := make([]int, api.MaxAsked+1)
	q := free(api.MaxAsked, api.MaxMost)
	for i := range x[1:] {
		x[i+1] = r.Intn(10001) - 5000
	}
	for len(q.System.Limits) < api.MaxAskLimits {
		a, b := r.Intn(len(x)), r.Intn(len(x))
		if a != b {
			q.System.Limits = append(q.System.Limits, api.Limit{A: a, B: b, Most: x[b] - x[a] + r.Intn(4000), By: 1 + r.Intn(api.MaxSource)})
		}
	}
	left := 1800000000000
	for i := range q.Weights[1:] {
		size := r.Intn(left/4 + 1)
		left -= size
		q.Weights[i+1] = size * (1 - 2*r.Intn(2))
	}
	q.Weights[0] = -left
	var l []api.Probe
	for range api.MaxProbes {
		l = append(l, api.Probe{Unknown: 1 + r.Intn(api.MaxAsked), Tolerance: r.Intn(api.MaxTolerance + 1)})
	}
	return q, l
}

// A maker makes questions at random.
type maker struct{ *rand.Rand }

// ask is a question of so few unknowns, which are tied so narrowly, that its
// hulls can be listed. Each unknown is tied to one ahead of it.
func (m maker) ask() api.Ask {
	many := m.Intn(4)
	x := make([]int, many+1)
	q := api.Ask{System: api.System{Many: many}, Weights: []int{m.Intn(9) - 4}, Width: m.Intn(12)}
	tie := func(a, b int) {
		l := api.Limit{A: a, B: b, Most: x[b] - x[a] + m.Intn(4), By: 1 + m.Intn(5)}
		q.System.Limits = append(q.System.Limits, l)
	}
	for b := 1; b <= many; b++ {
		x[b] = m.Intn(9) - 4
		a := m.Intn(b)
		tie(a, b)
		tie(b, a)
		q.Weights = append(q.Weights, m.Intn(7)-3)
	}
	for range m.Intn(3) {
		if a, b := m.Intn(many+1), m.Intn(many+1); a != b {
			tie(a, b)
		}
	}
	m.Shuffle(len(q.System.Limits), func(i, k int) {
		l := q.System.Limits
		l[i], l[k] = l[k], l[i]
	})
	return q
}

// probes are at most so many of a question.
func (m maker) probes(q api.Ask, most int) []api.Probe {
	var l []api.Probe
	for range m.Intn(most + 1) {
		if q.System.Many > 0 {
			l = append(l, api.Probe{Unknown: 1 + m.Intn(q.System.Many), Tolerance: m.Intn(3)})
		}
	}
	return l
}

// A listed question has all its hulls of whole numbers.
type listed struct {
	api.Ask
	hulls [][]int
}

// asks calls a function with questions that were made at random, and at most
// so many probes.
func asks(t *testing.T, seed int64, times, most int, do func(m maker, q listed, l []api.Probe)) {
	t.Helper()
	m := maker{rand.New(rand.NewSource(seed))}
	for range times {
		q := m.ask()
		do(m, listed{q, hulls(q.System)}, m.probes(q, most))
	}
}

// hulls lists the points that keep a system, each of whose unknowns is tied
// both ways to one ahead of it.
func hulls(s api.System) [][]int {
	found := [][]int{{0}}
	for b := 1; b <= s.Many; b++ {
		var longer [][]int
		for _, x := range found {
			lo, hi := -1000, 1000
			for _, l := range s.Limits {
				switch {
				case l.B == b && l.A < b:
					hi = min(hi, x[l.A]+l.Most)
				case l.A == b && l.B < b:
					lo = max(lo, x[l.B]-l.Most)
				}
			}
			for n := lo; n <= hi; n++ {
				longer = append(longer, slices.Concat(x, []int{n}))
			}
		}
		found = longer
	}
	return found
}

// sum is that of a point by weights; the unknown 0 is 0.
func sum(w, x []int) int {
	n := 0
	for i := range x {
		n += w[i] * x[i]
	}
	return n
}

// span is the least and the greatest number of a list.
func span[T any](l []T, number func(T) int) api.Range {
	var all []int
	for _, x := range l {
		all = append(all, number(x))
	}
	return api.Range{Lo: slices.Min(all), Hi: slices.Max(all)}
}

// sums are the least and the greatest sum of hulls.
func (q listed) sums(hulls [][]int) api.Range {
	return span(hulls, func(x []int) int { return sum(q.Weights, x) })
}

// width is that of hulls.
func (q listed) width(hulls [][]int) int {
	r := q.sums(hulls)
	return r.Hi - r.Lo
}

// values are those that a probe may tell.
func (q listed) values(p api.Probe) api.Range {
	r := span(q.hulls, func(x []int) int { return x[p.Unknown] })
	return api.Range{Lo: r.Lo - p.Tolerance, Hi: r.Hi + p.Tolerance}
}

// left are the hulls that an outcome leaves.
func (q listed) left(l []api.Probe, o api.Outcome) [][]int {
	return slices.DeleteFunc(slices.Clone(q.hulls), func(x []int) bool {
		for i, p := range l {
			if x[p.Unknown] < o.Values[i]-p.Tolerance || x[p.Unknown] > o.Values[i]+p.Tolerance {
				return true
			}
		}
		return false
	})
}

// outcomes are all that probes may tell, and what is just beyond it.
func (q listed) outcomes(l []api.Probe) []api.Outcome {
	all := []api.Outcome{{}}
	for _, p := range l {
		var longer []api.Outcome
		r := q.values(p)
		for _, o := range all {
			for v := r.Lo - 1; v <= r.Hi+1; v++ {
				longer = append(longer, api.Outcome{Values: slices.Concat(o.Values, []int{v})})
			}
		}
		all = longer
	}
	return all
}

// told is an outcome that leaves a hull, somewhere between the greatest values
// and the least ones that may be told of it.
func (m maker) told(x []int, l []api.Probe) api.Outcome {
	var o api.Outcome
	for _, p := range l {
		o.Values = append(o.Values, x[p.Unknown]-p.Tolerance+m.Intn(2*p.Tolerance+1))
	}
	return o
}

// alike reports whether some outcome leaves two hulls.
func alike(l []api.Probe, a, b []int) bool {
	return !slices.ContainsFunc(l, func(p api.Probe) bool {
		n := a[p.Unknown] - b[p.Unknown]
		return max(n, -n) > 2*p.Tolerance
	})
}

// worst is the greatest width of two hulls that some outcome leaves.
func (q listed) worst(l []api.Probe) int {
	widest := 0
	for _, a := range q.hulls {
		for _, b := range q.hulls {
			if n := sum(q.Weights, b) - sum(q.Weights, a); n > widest && alike(l, a, b) {
				widest = n
			}
		}
	}
	return widest
}

// choices are all of so many probes, in order.
func choices(n int) [][]int {
	one, two, three := [][]int{}, [][]int{}, [][]int{}
	for i := range n {
		one = append(one, []int{i})
		for k := i + 1; k < n; k++ {
			two = append(two, []int{i, k})
			for j := k + 1; j < n; j++ {
				three = append(three, []int{i, k, j})
			}
		}
	}
	return slices.Concat([][]int{nil}, one, two, three)
}

// of are the probes of a choice.
func of(l []api.Probe, choice []int) []api.Probe {
	var picked []api.Probe
	for _, i := range choice {
		picked = append(picked, l[i])
	}
	return picked
}

func sameLists(a, b [][]int) bool { return slices.EqualFunc(a, b, slices.Equal[[]int]) }

func sameSystem(a, b api.System) bool {
	return a.Many == b.Many && slices.Equal(a.Limits, b.Limits)
}

func sameAsk(a, b api.Ask) bool {
	return sameSystem(a.System, b.System) && slices.Equal(a.Weights, b.Weights) && a.Width == b.Width
}

func sameProof(a, b api.Proof) bool { return a.Bound == b.Bound && slices.Equal(a.Uses, b.Uses) }

func sameTwins(a, b api.Twins) bool { return slices.Equal(a.A, b.A) && slices.Equal(a.B, b.B) }

func samePick(a, b api.Pick) bool {
	return slices.Equal(a.Probes, b.Probes) && a.Width == b.Width && sameProof(a.Proof, b.Proof) &&
		slices.EqualFunc(a.Fails, b.Fails, sameTwins)
}

// mustHold fails a test if an error is not OK.
func mustHold(t *testing.T, e api.Errno, what ...any) {
	t.Helper()
	if e != api.OK {
		t.Fatal(append(what, e)...)
	}
}

// widthOf and worstOf are those of what is known to be valid.
func widthOf(t *testing.T, q api.Ask) int {
	t.Helper()
	n, e := probe.Width(q)
	mustHold(t, e, q)
	return n
}

func worstOf(t *testing.T, q api.Ask, l []api.Probe) int {
	t.Helper()
	n, _, e := probe.Worst(q, l)
	mustHold(t, e, q, l)
	return n
}
