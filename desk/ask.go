package desk

import (
	"iter"

	"moorsom/api"
	"moorsom/life"
	"moorsom/offsets"
	"moorsom/probe"
	"moorsom/register"
)

const maxWidth = 1000000000 // of what is asked of a quantity

// events yields the events that a register tells: life.Read has none for a
// lease.
func events(g api.Register) iter.Seq[api.Event] {
	return func(yield func(api.Event) bool) {
		for _, r := range g.Records {
			if x, e := life.Read(r); e == api.OK && !yield(x) {
				return
			}
		}
	}
}

// Events returns the events of ships that a register has.
func Events(g api.Register) ([]api.Event, api.Errno) {
	if e := register.Check(g); e != api.OK {
		return nil, e
	}
	var l []api.Event
	for x := range events(g) {
		l = append(l, x)
	}
	if e := life.Check(l); e != api.OK {
		return nil, e
	}
	return l, api.OK
}

// Question returns the question whether a quantity is known as well as this.
func Question(v api.Survey, w api.What, width int) (api.Ask, api.Errno) {
	if _, e := offsets.Bound(v, w); e != api.OK {
		return api.Ask{}, e
	}
	if !inside(width, 0, maxWidth) {
		return api.Ask{}, api.ErrArg
	}
	s, e := offsets.System(v)
	if e != api.OK {
		return api.Ask{}, e
	}
	weights, divisor, e := offsets.Weights(v.Space, w)
	if e != api.OK {
		return api.Ask{}, e
	}
	for len(weights) <= s.Many { // the tape days
		weights = append(weights, 0)
	}
	q := api.Ask{System: s, Weights: weights, Width: width * divisor}
	if e := probe.CheckAsk(q); e != api.OK {
		return api.Ask{}, e
	}
	return q, api.OK
}

// probeOf is the probe of a try.
func probeOf(s api.Space, t api.Try) (api.Probe, api.Errno) {
	unknown, e := offsets.Unknown(s, t.Station, t.Water)
	if e != api.OK || !inside(t.Tolerance, 0, api.MaxTolerance) {
		return api.Probe{}, api.ErrTry
	}
	return api.Probe{Unknown: unknown, Tolerance: t.Tolerance}, api.OK
}

// Probes returns the probes of readings that could be taken.
func Probes(v api.Survey, l []api.Try) ([]api.Probe, api.Errno) {
	if e := offsets.Check(v); e != api.OK {
		return nil, e
	}
	if len(l) > api.MaxTries {
		return nil, api.ErrLong
	}
	var probes []api.Probe
	for _, t := range l {
		p, e := probeOf(v.Space, t)
		if e != api.OK {
			return nil, e
		}
		probes = append(probes, p)
	}
	return probes, api.OK
}
