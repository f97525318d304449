package weigh

import (
	"slices"

	"moorsom/api"
)

// CheckPlaces reports whether positions are valid.
func CheckPlaces(l []int) api.Errno {
	if len(l) < 2 || len(l) > api.MaxStations || !within(l, 0, api.MaxAlong) {
		return api.ErrPlaces
	}
	for i := range len(l) - 1 {
		if l[i] >= l[i+1] {
			return api.ErrPlaces
		}
	}
	return api.OK
}

// ratio is the k for which one interval is k times the other one, if that is
// 1, 2 or 3, and otherwise 0.
func ratio(a, b int) int {
	short, long := min(a, b), max(a, b)
	for k := 1; k <= 3; k++ {
		if long == k*short {
			return k
		}
	}
	return 0
}

// groupsOf returns the groups of valid positions.
func groupsOf(l []int) []api.Group {
	var groups []api.Group
	for from := 0; from+1 < len(l); {
		many := 1
		if from+2 < len(l) && ratio(l[from+1]-l[from], l[from+2]-l[from+1]) != 0 {
			many = 2
		}
		groups = append(groups, api.Group{From: from, Many: many})
		from += many
	}
	return groups
}

// Groups tells how the intervals of positions are taken together.
func Groups(l []int) ([]api.Group, api.Errno) {
	if e := CheckPlaces(l); e != api.OK {
		return nil, e
	}
	return groupsOf(l), api.OK
}

// spread tells add the weights that the groups of valid positions give.
func spread(l []int, add func(at, weight int)) {
	for _, g := range groupsOf(l) {
		if g.Many == 1 {
			spreadOne(l, g.From, add)
		} else {
			spreadTwo(l, g.From, add)
		}
	}
}

// spreadOne tells the weights of a trapezoid.
func spreadOne(l []int, from int, add func(at, weight int)) {
	half := api.Scale / 2 * (l[from+1] - l[from])
	add(from, half)
	add(from+1, half)
}

// spreadTwo tells the weights of Simpson's rule for two intervals of which
// one is k times the other one.
func spreadTwo(l []int, from int, add func(at, weight int)) {
	one, two := l[from+1]-l[from], l[from+2]-l[from+1]
	k := ratio(one, two)
	unit := 6 / k * (1 + k) * min(one, two)
	first, last := unit*k*(2-k), unit*(2*k-1)
	if one > two {
		first, last = last, first
	}
	add(from, first)
	add(from+1, unit*(1+k)*(1+k))
	add(from+2, last)
}

// weightsOf returns the weights of valid positions.
func weightsOf(l []int) []int {
	t := tally{weights: make([]int, len(l))}
	spread(l, t.addWeight)
	return t.weights
}

// Weights returns 36 times the weight of each position.
func Weights(l []int) ([]int, api.Errno) {
	if e := CheckPlaces(l); e != api.OK {
		return nil, e
	}
	return weightsOf(l), api.OK
}

// divides reports whether the groups of two lists are together those of the
// whole, in which the second list begins where the first one ends.
func divides(first, second, whole []int) bool {
	groups := groupsOf(first)
	for _, g := range groupsOf(second) {
		groups = append(groups, api.Group{From: g.From + len(first) - 1, Many: g.Many})
	}
	return slices.Equal(groups, groupsOf(whole))
}

// Part cuts positions into two lists at a position that both have.
func Part(l []int, at int) (first, second []int, e api.Errno) {
	if e := CheckPlaces(l); e != api.OK {
		return nil, nil, e
	}
	if at < 1 || at > len(l)-2 {
		return nil, nil, api.ErrJoin
	}
	first, second = slices.Clone(l[:at+1]), slices.Clone(l[at:])
	if !divides(first, second, l) {
		return nil, nil, api.ErrJoin
	}
	return first, second, api.OK
}

// Join puts two lists of positions together that have the position between them in common.
func Join(a, b []int) ([]int, api.Errno) {
	for _, l := range [][]int{a, b} {
		if e := CheckPlaces(l); e != api.OK {
			return nil, e
		}
	}
	if a[len(a)-1] != b[0] {
		return nil, api.ErrJoin
	}
	whole := slices.Concat(a, b[1:])
	if e := CheckPlaces(whole); e != api.OK {
		return nil, e
	}
	if !divides(a, b, whole) {
		return nil, api.ErrJoin
	}
	return whole, api.OK
}
