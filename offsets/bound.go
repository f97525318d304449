package offsets

import (
	"moorsom/api"
	"moorsom/bound"
)

// A sum is a quantity of a survey: weights for the unknowns of its sheet, and
// by what their sum is divided.
type sum struct {
	*sheet
	weights []int
	divisor int
}

// sumOf checks a survey and then a quantity of its space.
func sumOf(v api.Survey, w api.What) (sum, api.Errno) {
	s, e := sheetOf(v)
	if e != api.OK {
		return sum{}, e
	}
	weights, divisor, e := weightsOf(v.Space, w)
	if e != api.OK {
		return sum{}, e
	}
	weights = append(weights, make([]int, len(s.days))...)
	return sum{s, weights, divisor}, api.OK
}

// towards returns what turns numbers so that the end that is meant is the
// greatest one: it leaves them as they are, or returns their negatives.
func towards(high bool) func(int) int {
	sign := -1
	if high {
		sign = 1
	}
	return func(n int) int { return sign * n }
}

// turned is the weights as they are turned.
func (s sum) turned(turn func(int) int) []int {
	weights := make([]int, 0, len(s.weights))
	for _, n := range s.weights {
		weights = append(weights, turn(n))
	}
	return weights
}

// floor is a divided by b, rounded down; b is above 0.
func floor(a, b int) int {
	whole := a / b
	if a%b < 0 {
		whole--
	}
	return whole
}

// ofSurvey is the error of a survey for one of its system.
func ofSurvey(e api.Errno) api.Errno {
	if e == api.ErrClash {
		return api.ErrFalse
	}
	return e
}

// Bound is the range of a quantity.
func Bound(v api.Survey, w api.What) (api.Range, api.Errno) {
	s, e := sumOf(v, w)
	if e != api.OK {
		return api.Range{}, e
	}
	lo, hi, e := bound.Range(s.System, s.weights)
	return api.Range{Lo: floor(lo, s.divisor), Hi: floor(hi, s.divisor)}, ofSurvey(e)
}

// Prove returns a proof of one end of the range of a quantity.
func Prove(v api.Survey, w api.What, high bool) (api.Proof, api.Errno) {
	s, e := sumOf(v, w)
	if e != api.OK {
		return api.Proof{}, e
	}
	p, e := bound.Prove(s.System, s.turned(towards(high)))
	return p, ofSurvey(e)
}

// CheckProof reports whether a proof shows that a quantity is at most (if
// high is false, at least) a number.
func CheckProof(v api.Survey, w api.What, high bool, n int, p api.Proof) api.Errno {
	s, e := sumOf(v, w)
	if e != api.OK {
		return e
	}
	turn := towards(high)
	if e := bound.CheckProof(s.System, s.turned(turn), p); e != api.OK {
		return e
	}
	end := floor(turn(p.Bound), s.divisor)
	if high && end > n || !high && end < n {
		return api.ErrShown
	}
	return api.OK
}

// Attain returns a hull that attains one end of the range of a quantity.
func Attain(v api.Survey, w api.What, high bool) (api.Hull, api.Errno) {
	s, e := sumOf(v, w)
	if e != api.OK {
		return api.Hull{}, e
	}
	point, e := bound.Best(s.System, s.turned(towards(high)))
	if e != api.OK {
		return api.Hull{}, ofSurvey(e)
	}
	return hullOf(v.Space, point), api.OK
}

// Tape is the range of the error of a tape on a day.
func Tape(v api.Survey, t api.TapeDay) (api.Range, api.Errno) {
	s, e := sheetOf(v)
	if e != api.OK {
		return api.Range{}, e
	}
	f, used := s.tape(t)
	if !used {
		return api.Range{}, api.ErrNone
	}
	weights := make([]int, s.Many+1)
	weights[f] = -1 // the unknown is the negative of the error
	lo, hi, e := bound.Range(s.System, weights)
	return api.Range{Lo: lo, Hi: hi}, ofSurvey(e)
}
