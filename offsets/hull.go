package offsets

import (
	"slices"

	"moorsom/api"
	"moorsom/bound"
)

// isHull reports whether a hull is one of a space.
func isHull(s api.Space, h api.Hull) bool {
	if len(h.Rows) != len(s.Stations) {
		return false
	}
	for _, row := range h.Rows {
		tooFar := func(n int) bool { return !inside(n, 0, api.MaxBreadth) }
		if len(row) != len(s.Waters) || slices.ContainsFunc(row, tooFar) {
			return false
		}
	}
	return true
}

// pointOf is the unknown 0 and the offsets of a hull, in their order.
func pointOf(s api.Space, h api.Hull) []int {
	point := []int{0}
	for o := range offsetsOf(s) {
		point = append(point, h.Rows[o.station][o.water])
	}
	return point
}

// hullOf is the hull whose offsets a point has.
func hullOf(s api.Space, point []int) api.Hull {
	h := api.Hull{Rows: make([][]int, len(s.Stations))}
	for o := range offsetsOf(s) {
		h.Rows[o.station] = append(h.Rows[o.station], point[o.unknown])
	}
	return h
}

// CheckHull reports whether a hull keeps a survey.
func CheckHull(v api.Survey, h api.Hull) api.Errno {
	s, e := sheetOf(v)
	if e != api.OK {
		return e
	}
	if !isHull(v.Space, h) {
		return api.ErrHull
	}
	point := append(pointOf(v.Space, h), slices.Repeat([]int{api.MaxError}, len(s.days))...)
	// No limit ties two tape days to each other. So each takes the greatest
	// number that it may; where that is too small, so is any other one.
	for _, l := range s.Limits {
		if l.B > s.offsets() {
			point[l.B] = min(point[l.B], point[l.A]+l.Most)
		}
	}
	if bound.CheckPoint(s.System, point) != api.OK {
		return api.ErrHull
	}
	return api.OK
}

// Value is a quantity of a hull.
func Value(s api.Space, h api.Hull, w api.What) (int, api.Errno) {
	if e := CheckSpace(s); e != api.OK {
		return 0, e
	}
	if !isHull(s, h) {
		return 0, api.ErrHull
	}
	weights, divisor, e := weightsOf(s, w)
	if e != api.OK {
		return 0, e
	}
	total, e := bound.Value(weights, pointOf(s, h))
	return floor(total, divisor), e
}
