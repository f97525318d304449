package bound

import (
	"iter"
	"slices"

	"moorsom/api"
)

// none stands where there is no unknown.
const none = -1

// A step leads from an unknown to another one, whose number is at most so
// much greater. It goes along a limit, or back along one that is taken.
type step struct {
	limit    int
	back     bool
	from, to int
	most     int
}

// A flow takes each limit of a system so many times.
type flow struct {
	api.System
	times []int
	near  [][]int // of each unknown, the indices of the limits that name it
}

// newFlow is the flow that takes no limit of a valid system.
func newFlow(s api.System) *flow {
	f := &flow{System: s, times: make([]int, len(s.Limits)), near: make([][]int, s.Many+1)}
	for i, l := range s.Limits {
		f.near[l.A] = append(f.near[l.A], i)
		f.near[l.B] = append(f.near[l.B], i)
	}
	return f
}

// steps yields the steps from an unknown. That back along a limit holds its
// two unknowns just as far apart as it allows, as points with the greatest
// sum do.
func (f *flow) steps(from int) iter.Seq[step] {
	return func(yield func(step) bool) {
		for _, i := range f.near[from] {
			l := f.Limits[i]
			s := step{limit: i, from: from, to: l.B, most: l.Most}
			if l.B == from {
				s = step{limit: i, back: true, from: from, to: l.A, most: -l.Most}
			}
			if s.back && f.times[i] == 0 {
				continue
			}
			if !yield(s) {
				return
			}
		}
	}
}

// lower goes once through all steps and lowers the numbers that are greater
// than a step allows; came gets the steps that did so. It returns an unknown
// that was lowered last, or none. A number that is Free allows nothing yet.
func (f *flow) lower(x []int, came []step) int {
	last := none
	for from := range f.Many + 1 {
		if x[from] == api.Free {
			continue
		}
		for s := range f.steps(from) {
			if n := x[from] + s.most; n < x[s.to] {
				x[s.to], came[s.to], last = n, s, s.to
			}
		}
	}
	return last
}

// settle returns a point that keeps all steps. If there is none, it returns a
// chain that contradicts. No number of the point is farther from 0 than as
// many limits as there are unknowns lead.
func (f *flow) settle() (point, chain []int) {
	x, came := make([]int, f.Many+1), make([]step, f.Many+1)
	last := none
	for range f.Many + 1 {
		if last = f.lower(x, came); last == none {
			return moved(x, -x[0]), nil
		}
	}
	// Without a contradiction no number is lowered by more steps than there are other ones.
	return nil, circle(came, last)
}

// moved returns numbers that are all so much greater.
func moved(x []int, by int) []int {
	l := make([]int, 0, len(x))
	for _, n := range x {
		l = append(l, n+by)
	}
	return l
}

// circle returns the limits of the circle into which one comes from an
// unknown against the steps that came to each.
func circle(came []step, at int) []int {
	for range came {
		at = came[at].from
	}
	limits := []int{came[at].limit}
	for v := came[at].from; v != at; v = came[v].from {
		limits = append(limits, came[v].limit)
	}
	slices.Reverse(limits)
	return limits
}

// sound reports whether some point keeps a valid system.
func sound(s api.System) bool {
	_, chain := newFlow(s).settle()
	return len(chain) == 0
}

// distances returns by how much at most each unknown is greater than a given
// one, Free if by as much as one likes. A point keeps all steps.
func (f *flow) distances(from int) []int {
	x := slices.Repeat([]int{api.Free}, f.Many+1)
	came := make([]step, f.Many+1)
	x[from] = 0
	for f.lower(x, came) != none {
	}
	return x
}

// sum is what all limits that are taken add up to.
func (f *flow) sum() int {
	sum := 0
	for i, l := range f.Limits {
		sum += f.times[i] * l.Most
	}
	return sum
}
