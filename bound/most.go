package bound

import "moorsom/api"

// Most is the greatest sum by weights.
func Most(s api.System, w []int) (int, api.Errno) {
	f, e := solve(s, w)
	if e != api.OK {
		return 0, e
	}
	return f.sum(), api.OK
}

// turned returns the negatives of valid weights.
func turned(w []int) []int {
	l := make([]int, 0, len(w))
	for _, n := range w {
		l = append(l, -n)
	}
	return l
}

// solveBoth returns the flows of the least sum (by the negatives) and of the greatest one.
func solveBoth(s api.System, w []int) (low, high *flow, e api.Errno) {
	high, e = solve(s, w)
	if e != api.OK {
		return nil, nil, e
	}
	low, e = solve(s, turned(w))
	if e != api.OK {
		return nil, nil, e
	}
	return low, high, api.OK
}

// Range is the least and the greatest sum by weights.
func Range(s api.System, w []int) (lo, hi int, e api.Errno) {
	low, high, e := solveBoth(s, w)
	if e != api.OK {
		return 0, 0, e
	}
	return -low.sum(), high.sum(), api.OK
}

// best is a point with the sum of a flow that solve returned: one that keeps
// the steps back along the limits that are taken too.
func (f *flow) best() []int {
	point, _ := f.settle()
	return point
}

// Best returns a point with the greatest sum.
func Best(s api.System, w []int) ([]int, api.Errno) {
	f, e := solve(s, w)
	if e != api.OK {
		return nil, e
	}
	return f.best(), api.OK
}

// Between returns two points, and how far from the first one to the second one a sum is reached.
func Between(s api.System, w []int, sum int) (first, second []int, n, d int, e api.Errno) {
	low, high, e := solveBoth(s, w)
	if e != api.OK {
		return nil, nil, 0, 0, e
	}
	lo, hi := -low.sum(), high.sum()
	if !inside(sum, lo, hi) {
		return nil, nil, 0, 0, api.ErrNone
	}
	// Where both ends are the same, nothing is to be gone of a way that must not be of the length 0.
	return low.best(), high.best(), sum - lo, max(hi-lo, 1), api.OK
}
