package probe

import (
	"slices"

	"moorsom/api"
	"moorsom/bound"
)

// firstSource is that of the limits by which the first probe tells something.
const firstSource = 90001

// Values is the range of what a probe may tell.
func Values(q api.Ask, p api.Probe) (api.Range, api.Errno) {
	return asked(q, []api.Probe{p}, func(y pairs) (api.Range, api.Errno) {
		apart, e := bound.Close(y.System)
		if e != api.OK {
			return api.Range{}, e
		}
		r := numbers(apart, p.Unknown)
		return api.Range{Lo: r.Lo - p.Tolerance, Hi: r.Hi + p.Tolerance}, api.OK
	})
}

// A rest is the system behind an outcome, and whether a hull keeps it. It may
// have more limits than that of a question.
type rest struct {
	api.System
	possible bool
}

// behind is what an outcome leaves.
func (y pairs) behind(o api.Outcome) rest {
	limits := slices.Clone(y.System.Limits)
	for i, p := range y.probes {
		u, t, v, by := p.Unknown, p.Tolerance, o.Values[i], firstSource+i
		// No number that is probed is farther from 0 than MaxMost: so a limit need
		// say no more, and a value that is farther from all of them is impossible.
		if !inside(v, -api.MaxMost-t, api.MaxMost+t) {
			return rest{}
		}
		limits = append(limits,
			api.Limit{A: 0, B: u, Most: min(v+t, api.MaxMost), By: by},
			api.Limit{A: u, B: 0, Most: min(t-v, api.MaxMost), By: by})
	}
	s := api.System{Many: y.System.Many, Limits: limits}
	chain, e := bound.Cycle(s)
	return rest{System: s, possible: e == api.OK && len(chain) == 0}
}

// left checks a question with probes and what they tell, and returns what that leaves.
func left(q api.Ask, l []api.Probe, o api.Outcome) (rest, api.Errno) {
	return asked(q, l, func(y pairs) (rest, api.Errno) {
		if len(o.Values) != len(l) {
			return rest{}, api.ErrOutcome
		}
		return y.behind(o), api.OK
	})
}

// Possible reports whether an outcome may be.
func Possible(q api.Ask, l []api.Probe, o api.Outcome) (bool, api.Errno) {
	r, e := left(q, l, o)
	return r.possible, e
}

// After is a question behind an outcome of probes.
func After(q api.Ask, l []api.Probe, o api.Outcome) (api.Ask, api.Errno) {
	r, e := left(q, l, o)
	switch {
	case e != api.OK:
		return api.Ask{}, e
	case !r.possible:
		return api.Ask{}, api.ErrOutcome
	case len(r.Limits) > api.MaxAskLimits:
		return api.Ask{}, api.ErrLong
	}
	return api.Ask{System: r.System, Weights: slices.Clone(q.Weights), Width: q.Width}, api.OK
}
