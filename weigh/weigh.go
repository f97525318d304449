// Package weigh is layer 1: exact fractions, and the weights with which
// ordinates at positions of unequal spacing are integrated.
// See shared/doc/01-weigh.md.
package weigh

import (
	"iter"

	"moorsom/api"
)

// A tally adds up weights that groups of positions give: those of each
// position, or the products with what stands at the positions.
type tally struct {
	weights []int
	values  []int
	sum     int
}

func (t *tally) addWeight(at, weight int) { t.weights[at] += weight }

func (t *tally) addProduct(at, weight int) { t.sum += weight * t.values[at] }

// pairs yields what stands at the same index of two lists: stations with
// their rows, waters with their half-breadths. The second list is at least
// as long as the first one.
func pairs[A, B any](first []A, second []B) iter.Seq2[A, B] {
	return func(yield func(A, B) bool) {
		for i, a := range first {
			if !yield(a, second[i]) {
				return
			}
		}
	}
}

// within reports whether all numbers of a list are from lo to hi.
func within(l []int, lo, hi int) bool {
	for _, n := range l {
		if n < lo || n > hi {
			return false
		}
	}
	return true
}

// checkOrdinates checks positions, and then that the ordinates are some for them.
func checkOrdinates(l, ordinates []int) api.Errno {
	if e := CheckPlaces(l); e != api.OK {
		return e
	}
	if len(ordinates) != len(l) || !within(ordinates, -api.MaxHalf, api.MaxHalf) {
		return api.ErrArg
	}
	return api.OK
}

// integrate adds up the weights of valid positions times values.
func integrate(l, values []int) int {
	t := tally{values: values}
	spread(l, t.addProduct)
	return t.sum
}

// levers returns ordinates times their distances from a position.
func levers(l, ordinates []int, about int) []int {
	values := make([]int, 0, len(l))
	for place, ordinate := range pairs(l, ordinates) {
		values = append(values, ordinate*(place-about))
	}
	return values
}

// Area is 36 times the integral of ordinates.
func Area(l, ordinates []int) (int, api.Errno) {
	if e := checkOrdinates(l, ordinates); e != api.OK {
		return 0, e
	}
	return integrate(l, ordinates), api.OK
}

// Moment is 36 times the integral of ordinates times the distance from a position.
func Moment(l, ordinates []int, about int) (int, api.Errno) {
	if e := checkOrdinates(l, ordinates); e != api.OK {
		return 0, e
	}
	if about < 0 || about > api.MaxAlong {
		return 0, api.ErrArg
	}
	return integrate(l, levers(l, ordinates, about)), api.OK
}

// Centre is the position of the centre of ordinates.
func Centre(l, ordinates []int) (api.Frac, api.Errno) {
	if e := checkOrdinates(l, ordinates); e != api.OK {
		return api.Frac{}, e
	}
	area := integrate(l, ordinates)
	if area == 0 {
		return api.Frac{}, api.ErrNone
	}
	return Make(integrate(l, levers(l, ordinates, 0)), area)
}
