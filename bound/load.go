package bound

import (
	"slices"

	"moorsom/api"
)

// toll is more than the price of any way along limits that comes to no
// unknown twice.
const toll = api.MaxUnknowns*api.MaxMost + 1

// finer is how much smaller each portion is than the one ahead of it.
const finer = 64

// A load is a flow that is being found: weights are moved, at the least
// price, to the unknowns above 0 from those below it.
type load struct {
	*flow
	due   []int // what each unknown is still to get; below 0, what it is to give
	point []int // keeps all steps; so the price of a step beyond the point's is at least 0
}

// A trip is the search of a load for the cheapest way.
type trip struct {
	price [api.MaxUnknowns + 1]int
	came  [api.MaxUnknowns + 1]step
	left  [api.MaxUnknowns + 1]bool // whether an unknown has been gone on from
}

// tolled is a system with dear limits between the unknown 0 and each other
// one, both ways. So there is a way between any two unknowns. Where there is
// a greatest sum, a point attains it whose numbers are all less than a toll.
func tolled(s api.System) api.System {
	limits := slices.Clone(s.Limits)
	for i := range s.Many {
		limits = append(limits, api.Limit{B: i + 1, Most: toll}, api.Limit{A: i + 1, Most: toll})
	}
	return api.System{Many: s.Many, Limits: limits}
}

// solve returns a flow whose limits add up to the weights and to the greatest
// sum by them. It checks the system and the weights.
func solve(s api.System, w []int) (*flow, api.Errno) {
	if e := checkWeights(s, w); e != api.OK {
		return nil, e
	}
	f := newFlow(s)
	point, chain := f.settle()
	if len(chain) != 0 {
		return nil, api.ErrClash
	}
	l := load{flow: newFlow(tolled(s)), due: slices.Clone(w), point: point}
	l.due[0] = 0
	for _, n := range w[1:] {
		l.due[0] -= n
	}
	l.moveAll()
	copy(f.times, l.times)
	tolls := l.times[len(f.times):]
	// A toll is paid only if no other flow has the weights, and then there is no greatest sum.
	if slices.ContainsFunc(tolls, func(n int) bool { return n > 0 }) {
		return nil, api.ErrOpen
	}
	return f, api.OK
}

// moveAll moves all that is due: first in large portions, so that the number
// of ways does not grow with the weights, but with their digits. All that is
// moved is a multiple of the portion; so each limit that is taken has room
// for one on the way back.
func (l *load) moveAll() {
	portion := 1
	for portion <= slices.Max(l.due)/finer {
		portion *= finer
	}
	for ; portion > 0; portion /= finer {
		for l.move(portion) {
		}
	}
}

// move moves portions along one cheapest way, and reports whether there was one.
func (l *load) move(portion int) bool {
	way := l.search(portion)
	if len(way) == 0 {
		return false
	}
	first, last := way[0].from, way[len(way)-1].to
	n := min(-l.due[first], l.due[last])
	for _, s := range way {
		if s.back {
			n = min(n, l.times[s.limit])
		}
	}
	n -= n % portion
	l.due[first] += n
	l.due[last] -= n
	for _, s := range way {
		if s.back {
			l.times[s.limit] -= n
		} else {
			l.times[s.limit] += n
		}
	}
	return true
}

// search returns the cheapest way from an unknown that is to give a portion
// to one that is to get one, and fits the point to it.
func (l *load) search(portion int) []step {
	var t trip
	l.start(&t, portion)
	at := none
search:
	for {
		switch at = l.nearest(&t); {
		case at == none:
			return nil
		case l.due[at] >= portion:
			break search
		}
		t.left[at] = true
		for s := range l.steps(at) {
			if n := t.price[at] + s.most + l.point[at] - l.point[s.to]; n < t.price[s.to] {
				t.price[s.to], t.came[s.to] = n, s
			}
		}
	}
	for i := range l.point {
		l.point[i] += min(t.price[i], t.price[at])
	}
	return t.way(at)
}

// start sets a trip out from all unknowns that are to give a portion.
func (l *load) start(t *trip, portion int) {
	for i, n := range l.due {
		t.price[i] = api.Free
		if n <= -portion {
			t.price[i] = 0
			t.came[i].from = none
		}
	}
}

// nearest is the cheapest unknown of a trip that has not been gone on from, or none.
func (l *load) nearest(t *trip) int {
	at, price := none, api.Free
	for i := range l.Many + 1 {
		if !t.left[i] && t.price[i] < price {
			at, price = i, t.price[i]
		}
	}
	return at
}

// way is the way of a trip to an unknown.
func (t *trip) way(to int) []step {
	var way []step
	for ; t.came[to].from != none; to = t.came[to].from {
		way = append(way, t.came[to])
	}
	slices.Reverse(way)
	return way
}
