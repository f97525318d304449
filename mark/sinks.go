package mark

import (
	"moorsom/api"
	"moorsom/offsets"
)

// unsure is the index of the first leg whose answer is not Yes, or how many
// legs there are.
func (y *voyage) unsure() int {
	first := 0
search:
	for ; first < len(y.legs); first++ {
		switch y.legs[first].answer() {
		case api.No, api.Maybe:
			break search
		}
	}
	return first
}

// Sinks returns a hull, a density and a mass that sink a mark.
func Sinks(v api.Survey, l api.Lines, r api.Route, mass api.Range) (api.Witness, api.Errno) {
	y, e := measured(v, l, r, mass)
	if e != api.OK {
		return api.Witness{}, e
	}
	first := y.unsure()
	if first == len(y.legs) {
		return api.Witness{}, api.ErrNone
	}
	x := y.legs[first]
	// At the first waterline all hulls bear the same: so any one will do.
	hull, e := offsets.Attain(y.Survey, upTo(max(x.mark, 1)), false)
	if e != api.OK {
		return api.Witness{}, e
	}
	// The lightest water bears least; litres below 0 bear nothing in any.
	return api.Witness{Leg: first, Dense: x.Dense.Lo, Mass: x.mass.Hi, Hull: hull}, api.OK
}

// CheckSinks reports whether a witness sinks a mark.
func CheckSinks(v api.Survey, l api.Lines, r api.Route, mass api.Range, w api.Witness) api.Errno {
	y, e := underWay(v, l, r, mass)
	if e != api.OK {
		return e
	}
	return unless(y.sunkBy(w), api.ErrWitness)
}

// sunkBy reports whether a witness sinks the mark of its leg.
func (y *voyage) sunkBy(w api.Witness) bool {
	if !inside(w.Leg, 0, len(y.legs)-1) {
		return false
	}
	x := y.legs[w.Leg]
	if !has(x.Dense, w.Dense) || !has(x.mass, w.Mass) || offsets.CheckHull(y.Survey, w.Hull) != api.OK {
		return false
	}
	litres := 0
	if x.mark > 0 {
		litres, _ = offsets.Value(y.Space, w.Hull, upTo(x.mark))
	}
	return w.Mass > displaced(litres, w.Dense)
}
