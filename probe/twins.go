package probe

import (
	"slices"

	"moorsom/api"
	"moorsom/bound"
)

// farthest is the size that no number of twins that are to meet exceeds.
const farthest = api.MaxUnknowns * api.MaxMost

// show returns twins with the greatest width.
func (y pairs) show() (api.Twins, api.Errno) {
	x, e := bound.Best(y.both(), y.less())
	if e != api.OK {
		return api.Twins{}, e
	}
	hull := func(first int) []int { return slices.Concat([]int{0}, x[first:first+y.System.Many]) }
	return api.Twins{A: hull(1), B: hull(1 + y.System.Many)}, api.OK
}

// between is the width of twins. An unknown that is tied to others alone may be
// so far from 0 that a product is no int; the width is one, and what wraps
// around on the way adds up to it.
func (y pairs) between(t api.Twins) int {
	width := 0
	for i, n := range y.Weights {
		width += n * (t.B[i] - t.A[i])
	}
	return width
}

// parts reports whether no value that a probe may tell leaves both twins.
func parts(p api.Probe, t api.Twins) bool {
	return !inside(t.A[p.Unknown]-t.B[p.Unknown], -2*p.Tolerance, 2*p.Tolerance)
}

// checkTwins returns the width of twins, or why they are none.
func (y pairs) checkTwins(t api.Twins) (int, api.Errno) {
	for _, x := range [...][]int{t.A, t.B} {
		if e := bound.CheckPoint(y.System, x); e != api.OK {
			return 0, e
		}
	}
	for _, p := range y.probes {
		if parts(p, t) {
			return 0, api.ErrOutcome
		}
	}
	return y.between(t), api.OK
}

// Show returns two hulls, and an outcome that leaves both, with the greatest width.
func Show(q api.Ask, l []api.Probe) (api.Twins, api.Outcome, api.Errno) {
	t, e := asked(q, l, pairs.show)
	if e != api.OK {
		return api.Twins{}, api.Outcome{}, e
	}
	o, e := Meeting(l, t)
	if e != api.OK {
		return api.Twins{}, api.Outcome{}, e
	}
	return t, o, api.OK
}

// CheckTwins is the width between two hulls that an outcome of probes leaves.
func CheckTwins(q api.Ask, l []api.Probe, t api.Twins) (int, api.Errno) {
	return asked(q, l, func(y pairs) (int, api.Errno) { return y.checkTwins(t) })
}

// checkMeeting reports whether a value of a probe leaves two lists of as many numbers.
func checkMeeting(p api.Probe, t api.Twins) api.Errno {
	near := func(n int) bool { return inside(n, -farthest, farthest) }
	switch u := p.Unknown; {
	case !inside(u, 1, len(t.A)-1) || !inside(p.Tolerance, 0, api.MaxTolerance):
		return api.ErrProbe
	case !near(t.A[u]) || !near(t.B[u]):
		return api.ErrPoint
	case parts(p, t):
		return api.ErrOutcome
	}
	return api.OK
}

// Meeting is the outcome half way between two hulls.
func Meeting(l []api.Probe, t api.Twins) (api.Outcome, api.Errno) {
	if len(t.A) != len(t.B) {
		return api.Outcome{}, api.ErrPoint
	}
	var o api.Outcome
	for _, p := range l {
		if e := checkMeeting(p, t); e != api.OK {
			return api.Outcome{}, e
		}
		// A shift rounds down also where a division rounds up: below 0.
		o.Values = append(o.Values, (t.A[p.Unknown]+t.B[p.Unknown])>>1)
	}
	return o, api.OK
}
