package probe

import (
	"slices"

	"moorsom/api"
	"moorsom/bound"
)

// Pairs are of a valid question with probes: two hulls of it at once, whose
// unknowns stand one behind the other.
type pairs struct {
	api.Ask
	probes []api.Probe
}

// asked checks a question with probes, and returns what is told of its pairs.
func asked[T any](q api.Ask, l []api.Probe, tell func(pairs) (T, api.Errno)) (T, api.Errno) {
	if e := CheckProbes(q, l); e != api.OK {
		var none T
		return none, e
	}
	return tell(pairs{Ask: q, probes: l})
}

// second is the unknown of the second hull for one of the first hull.
func (y pairs) second(unknown int) int {
	if unknown == 0 { // that both hulls share
		return 0
	}
	return unknown + y.System.Many
}

// both is the system of two hulls that the probes do not part.
func (y pairs) both() api.System {
	limits := slices.Clone(y.System.Limits)
	for _, l := range y.System.Limits {
		limits = append(limits, api.Limit{A: y.second(l.A), B: y.second(l.B), Most: l.Most, By: l.By})
	}
	for i, p := range y.probes {
		a, b, by := p.Unknown, y.second(p.Unknown), firstSource+i
		limits = append(limits,
			api.Limit{A: a, B: b, Most: 2 * p.Tolerance, By: by},
			api.Limit{A: b, B: a, Most: 2 * p.Tolerance, By: by})
	}
	return api.System{Many: 2 * y.System.Many, Limits: limits}
}

// less are the weights by which the first hull's sum is taken from that of the
// second one.
func (y pairs) less() []int {
	w := []int{0}
	for _, n := range y.Weights[1:] {
		w = append(w, -n)
	}
	return append(w, y.Weights[1:]...)
}

// Pairs is the system of two hulls that an outcome of probes may leave.
func Pairs(q api.Ask, l []api.Probe) (api.System, []int, api.Errno) {
	if e := CheckProbes(q, l); e != api.OK {
		return api.System{}, nil, e
	}
	y := pairs{Ask: q, probes: l}
	return y.both(), y.less(), api.OK
}

// worst is the proof of the greatest width.
func (y pairs) worst() (api.Proof, api.Errno) { return bound.Prove(y.both(), y.less()) }

// Worst is the greatest width that an outcome of probes leaves, and its proof.
func Worst(q api.Ask, l []api.Probe) (int, api.Proof, api.Errno) {
	p, e := asked(q, l, pairs.worst)
	return p.Bound, p, e
}

// checkWorst reports whether a proof shows that no width is greater.
func (y pairs) checkWorst(width int, p api.Proof) api.Errno {
	if e := bound.CheckProof(y.both(), y.less(), p); e != api.OK {
		return e
	}
	if p.Bound > width {
		return api.ErrWide
	}
	return api.OK
}

// CheckWorst reports whether a proof shows that no outcome of probes leaves more than a width.
func CheckWorst(q api.Ask, l []api.Probe, width int, p api.Proof) api.Errno {
	if e := CheckProbes(q, l); e != api.OK {
		return e
	}
	return pairs{Ask: q, probes: l}.checkWorst(width, p)
}
