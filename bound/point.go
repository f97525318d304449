package bound

import "moorsom/api"

// farthest is the size that no number of a best point exceeds.
const farthest = api.MaxUnknowns * api.MaxMost

// Point returns a point that numbers choose.
func Point(s api.System, picks []int) ([]int, api.Errno) {
	apart, e := Close(s)
	if e != api.OK {
		return nil, e
	}
	if len(picks) == 0 {
		picks = []int{0}
	}
	x := []int{0}
	for i := range s.Many {
		lo, hi := room(apart, x)
		x = append(x, choose(lo, hi, picks[i%len(picks)]))
	}
	return x, api.OK
}

// room returns the least and the greatest number that the first unknowns of a
// point leave to the next one: -Free and Free if there is none.
func room(apart [][]int, x []int) (lo, hi int) {
	lo, hi = -api.Free, api.Free
	next := len(x)
	for i, n := range x {
		if down := apart[next][i]; down != api.Free {
			lo = max(lo, n-down)
		}
		if up := apart[i][next]; up != api.Free {
			hi = min(hi, n+up)
		}
	}
	return lo, hi
}

// choose chooses among the numbers that are left to an unknown.
func choose(lo, hi, pick int) int {
	switch {
	case lo == -api.Free && hi == api.Free:
		return 0
	case hi == api.Free:
		return lo
	case lo == -api.Free:
		return hi
	}
	return lo + modulo(pick, hi-lo+1)
}

// modulo is the number from 0 to n - 1 that differs from a by a multiple of n.
func modulo(a, n int) int {
	rest := a % n
	if rest < 0 {
		rest += n
	}
	return rest
}

// CheckPoint reports whether a point keeps all limits.
func CheckPoint(s api.System, x []int) api.Errno {
	if e := Check(s); e != api.OK {
		return e
	}
	if len(x) != s.Many+1 || x[0] != 0 || !allInside(x, api.Free) {
		return api.ErrPoint
	}
	for _, l := range s.Limits {
		if x[l.B]-x[l.A] > l.Most {
			return api.ErrPoint
		}
	}
	return api.OK
}

// allInside reports whether no number's size is above a greatest one.
func allInside(l []int, most int) bool {
	for _, n := range l {
		if !inside(n, -most, most) {
			return false
		}
	}
	return true
}

// Value is the sum of a point's numbers by weights.
func Value(w []int, x []int) (int, api.Errno) {
	if len(w) > api.MaxUnknowns+1 || !weighs(w) {
		return 0, api.ErrWeight
	}
	if len(x) != len(w) || !allInside(x, farthest) {
		return 0, api.ErrPoint
	}
	sum := 0
	for i, n := range w {
		sum += n * x[i]
	}
	return sum, api.OK
}
