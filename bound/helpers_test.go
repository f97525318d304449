package bound_test

import (
	"math"
	"math/rand"
	"slices"
	"testing"

	"moorsom/api"
	"moorsom/bound"
)

// farthest is the size that no number of a best point exceeds.
const farthest = api.MaxUnknowns * api.MaxMost

// example is the system S of the chapter.
func example() api.System {
	return api.System{Many: 3, Limits: []api.Limit{
		{A: 0, B: 1, Most: 10, By: 1}, {A: 1, B: 0, Most: -4, By: 1},
		{A: 1, B: 2, Most: 3, By: 2}, {A: 2, B: 1, Most: 0, By: 2},
		{A: 0, B: 3, Most: 7, By: 3}, {A: 3, B: 0, Most: 0, By: 3},
		{A: 0, B: 2, Most: 12, By: 4},
	}}
}

// openExample is S with one limit more, with which it is open.
func openExample() api.System {
	s := example()
	s.Limits = append(s.Limits, api.Limit{A: 2, B: 0, Most: -13, By: 9})
	return s
}

// looseExample has unknowns that no limit ties to the unknown 0: 2 and 3 only
// to each other, 4 to none, and 1 from above alone.
func looseExample() api.System {
	return api.System{Many: 4, Limits: []api.Limit{
		{A: 0, B: 1, Most: 5, By: 1}, {A: 2, B: 3, Most: 7, By: 2}, {A: 3, B: 2, Most: -2, By: 3},
	}}
}

func sameSystem(s, t api.System) bool {
	return s.Many == t.Many && slices.Equal(s.Limits, t.Limits)
}

// uses are limits, each with the times that it is taken.
func uses(numbers ...int) []api.Use {
	var l []api.Use
	for i := 0; i+1 < len(numbers); i += 2 {
		l = append(l, api.Use{Limit: numbers[i], Times: numbers[i+1]})
	}
	return l
}

func sameProof(p, q api.Proof) bool {
	return p.Bound == q.Bound && slices.Equal(p.Uses, q.Uses)
}

// without is a system without the limits for which a question is answered with yes.
func without(s api.System, gone func(i int, l api.Limit) bool) api.System {
	t := api.System{Many: s.Many}
	for i, l := range s.Limits {
		if !gone(i, l) {
			t.Limits = append(t.Limits, l)
		}
	}
	return t
}

// apart tells by how much at most each unknown is greater than each other
// one, and whether the system is sound; by the rule of Floyd and Warshall.
func apart(s api.System) ([][]int, bool) {
	m := make([][]int, s.Many+1)
	for a := range m {
		m[a] = slices.Repeat([]int{api.Free}, s.Many+1)
		m[a][a] = 0
	}
	for _, l := range s.Limits {
		m[l.A][l.B] = min(m[l.A][l.B], l.Most)
	}
	for k := range m {
		for a := range m {
			for b := range m {
				if m[a][k] != api.Free && m[k][b] != api.Free {
					m[a][b] = min(m[a][b], m[a][k]+m[k][b])
				}
			}
		}
		for a := range m {
			if m[a][a] < 0 {
				return nil, false
			}
		}
	}
	return m, true
}

func isSound(s api.System) bool {
	_, ok := apart(s)
	return ok
}

func isOpenBy(s api.System, by []int) bool {
	return !isSound(without(s, func(_ int, l api.Limit) bool { return !slices.Contains(by, l.By) }))
}

// keeps reports whether a point keeps a system.
func keeps(s api.System, x []int) bool {
	if len(x) != s.Many+1 || x[0] != 0 {
		return false
	}
	for _, l := range s.Limits {
		if x[l.B]-x[l.A] > l.Most {
			return false
		}
	}
	return true
}

func sumOf(w, x []int) int {
	sum := 0
	for i := range w {
		sum += w[i] * x[i]
	}
	return sum
}

func within(l []int, lo, hi int) bool {
	return len(l) == 0 || slices.Min(l) >= lo && slices.Max(l) <= hi
}

func negatives(w []int) []int {
	l := slices.Clone(w)
	for i := range l {
		l[i] = -l[i]
	}
	return l
}

// endless reports whether sums are as great as one likes, in a sound system
// of few unknowns: whether some unknowns can go up together, or down, with
// the sum going up.
func endless(s api.System, w []int) bool {
	for set := range 1 << s.Many {
		in := func(v int) bool { return v > 0 && set>>(v-1)&1 == 1 }
		up, down, sum := true, true, 0
		for _, l := range s.Limits {
			up = up && (!in(l.B) || in(l.A))
			down = down && (!in(l.A) || in(l.B))
		}
		for v := range w {
			if in(v) {
				sum += w[v]
			}
		}
		if up && sum > 0 || down && sum < 0 {
			return true
		}
	}
	return false
}

// shows reports whether a proof is one for a system and weights, as the chapter says it.
func shows(s api.System, w []int, p api.Proof) bool {
	if len(p.Uses) > api.MaxUses {
		return false
	}
	net, sum, all := make([]int, s.Many+1), 0, 0
	for i, u := range p.Uses {
		if u.Limit < 0 || u.Limit >= len(s.Limits) || i > 0 && p.Uses[i-1].Limit >= u.Limit {
			return false
		}
		if u.Times < 1 || u.Times > api.MaxSum {
			return false
		}
		l := s.Limits[u.Limit]
		net[l.B] += u.Times
		net[l.A] -= u.Times
		sum += u.Times * l.Most
		all += u.Times
	}
	return all <= 64*api.MaxSum && slices.Equal(net[1:], w[1:]) && sum == p.Bound
}

// randomSystem is a system about a point: its limits leave it room, or, if
// tight is above 0, now and then exclude it.
func randomSystem(r *rand.Rand, many, limits, size, tight int) api.System {
	x := make([]int, many+1)
	for i := range x[1:] {
		x[i+1] = r.Intn(2*size+1) - size
	}
	s := api.System{Many: many}
	for many > 0 && len(s.Limits) < limits {
		a, b := r.Intn(many+1), r.Intn(many+1)
		most := x[b] - x[a] + r.Intn(size+1)
		if tight > 0 && r.Intn(tight) == 0 {
			most -= size
		}
		if a != b && most >= -api.MaxMost && most <= api.MaxMost {
			s.Limits = append(s.Limits, api.Limit{A: a, B: b, Most: most, By: 1 + r.Intn(limits)})
		}
	}
	return s
}

// fullSystem has the greatest numbers of unknowns and limits, and is sound;
// each unknown is tied to the unknown 0 both ways.
func fullSystem(r *rand.Rand) api.System {
	s := randomSystem(r, api.MaxUnknowns, api.MaxLimits-2*api.MaxUnknowns, 5000, 0)
	for v := range api.MaxUnknowns {
		s.Limits = append(s.Limits, api.Limit{B: v + 1, Most: api.MaxMost, By: 900}, api.Limit{A: v + 1, Most: api.MaxMost, By: 900})
	}
	return s
}

func randomWeights(r *rand.Rand, many, size int) []int {
	w := make([]int, many+1)
	for i := range w {
		w[i] = r.Intn(2*size+1) - size
	}
	return w
}

// smallSystems calls a function with many small systems, sound and open, tied and loose.
func smallSystems(do func(r *rand.Rand, s api.System)) {
	r := rand.New(rand.NewSource(2))
	for range 1500 {
		do(r, randomSystem(r, r.Intn(6), r.Intn(13), 1+r.Intn(9), r.Intn(5)))
	}
}

// soundSystems calls a function with the sound ones of them.
func soundSystems(do func(r *rand.Rand, s api.System)) {
	smallSystems(func(r *rand.Rand, s api.System) {
		if isSound(s) {
			do(r, s)
		}
	})
}

// chainSystem is a chain of the greatest number of unknowns, each so much
// greater than the one ahead of it, neither more nor less.
func chainSystem(most int) api.System {
	s := api.System{Many: api.MaxUnknowns}
	for v := range api.MaxUnknowns {
		s.Limits = append(s.Limits, api.Limit{A: v, B: v + 1, Most: most, By: v + 1}, api.Limit{A: v + 1, B: v, Most: -most, By: 100 + v})
	}
	return s
}

// unit is a weight for one unknown.
func unit(many, unknown, weight int) []int {
	w := make([]int, many+1)
	w[unknown] = weight
	return w
}

// invalidSystems are systems with the errors of Check.
func invalidSystems() []struct {
	s api.System
	e api.Errno
} {
	l := api.Limit{A: 0, B: 1, Most: 1, By: 1}
	return []struct {
		s api.System
		e api.Errno
	}{
		{api.System{Many: -1}, api.ErrSystem},
		{api.System{Many: api.MaxUnknowns + 1}, api.ErrSystem},
		{api.System{Many: math.MinInt}, api.ErrSystem},
		{api.System{Many: math.MaxInt}, api.ErrSystem},
		{api.System{Many: -1, Limits: slices.Repeat([]api.Limit{{}}, api.MaxLimits+1)}, api.ErrSystem},
		{api.System{Many: 1, Limits: slices.Repeat([]api.Limit{l}, api.MaxLimits+1)}, api.ErrLong},
		{api.System{Many: 1, Limits: slices.Repeat([]api.Limit{{}}, api.MaxLimits+1)}, api.ErrLong},
		{api.System{Many: 1, Limits: []api.Limit{l, {}}}, api.ErrLimit},
		{api.System{Many: 0, Limits: []api.Limit{l}}, api.ErrLimit},
		{api.System{Many: 1, Limits: append(slices.Repeat([]api.Limit{l}, api.MaxLimits-1), api.Limit{A: 0, B: 2, Most: 1, By: 1})}, api.ErrLimit},
	}
}

// isZero reports whether a result is a zero value, or an empty list.
func isZero(v any) bool {
	switch x := v.(type) {
	case int:
		return x == 0
	case []int:
		return len(x) == 0
	case [][]int:
		return len(x) == 0
	case api.Proof:
		return x.Bound == 0 && len(x.Uses) == 0
	case api.System:
		return x.Many == 0 && len(x.Limits) == 0
	}
	return false
}

// outcome is what a call returned: an error and its other results.
type outcome struct {
	name    string
	e       api.Errno
	results []any
}

// zero reports whether an outcome has nothing but its error.
func (o outcome) zero() bool {
	return !slices.ContainsFunc(o.results, func(v any) bool { return !isZero(v) })
}

// weighted calls all functions that take weights and ask for a sound system.
func weighted(s api.System, w []int, sum int) []outcome {
	most, e1 := bound.Most(s, w)
	lo, hi, e2 := bound.Range(s, w)
	best, e3 := bound.Best(s, w)
	first, second, n, d, e4 := bound.Between(s, w, sum)
	proof, e5 := bound.Prove(s, w)
	moves, e6 := bound.Moves(s, w)
	return []outcome{
		{"Most", e1, []any{most}}, {"Range", e2, []any{lo, hi}}, {"Best", e3, []any{best}},
		{"Between", e4, []any{first, second, n, d}}, {"Prove", e5, []any{proof}}, {"Moves", e6, []any{moves}},
	}
}

// unweighted calls all functions that take a system and no weights, and return an error.
func unweighted(s api.System) []outcome {
	rows, e1 := bound.Close(s)
	cycle, e2 := bound.Cycle(s)
	point, e3 := bound.Point(s, []int{5, -3})
	conflict, e4 := bound.Conflict(s)
	idle, e5 := bound.Idle(s)
	with, e6 := bound.With(s, api.Limit{})
	rests, e7 := bound.Rests(s, api.Proof{Uses: []api.Use{{Limit: -1}}})
	return []outcome{
		{"Close", e1, []any{rows}}, {"Cycle", e2, []any{cycle}}, {"Point", e3, []any{point}},
		{"Conflict", e4, []any{conflict}}, {"Idle", e5, []any{idle}}, {"With", e6, []any{with}},
		{"Rests", e7, []any{rests}},
		{"CheckCycle", bound.CheckCycle(s, nil), nil}, {"CheckPoint", bound.CheckPoint(s, nil), nil},
		{"CheckConflict", bound.CheckConflict(s, nil), nil},
	}
}

// spoil writes into all the memory of a list, also behind its end.
func spoil(l []int) {
	l = l[:cap(l)]
	for i := range l {
		l[i] = -77
	}
}

// mustHold fails a test if an error is not OK.
func mustHold(t *testing.T, e api.Errno, what ...any) {
	t.Helper()
	if e != api.OK {
		t.Error(append(what, e)...)
	}
}
