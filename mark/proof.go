package mark

import (
	"cmp"

	"moorsom/api"
	"moorsom/offsets"
)

// atMark checks what is to be proved, and returns the litres up to the mark
// of the leg.
func atMark(v api.Survey, l api.Lines, x api.Leg, mass int) (api.What, api.Errno) {
	one := api.Range{Lo: mass, Hi: mass}
	if e := cmp.Or(offsets.Check(v), CheckLines(l), checkLeg(x), checkMass(one)); e != api.OK {
		return api.What{}, e
	}
	mark, e := lowest(v.Space, l, x)
	if e != api.OK {
		return api.What{}, e
	}
	if mark == 0 { // up to there nothing is to be proved
		return api.What{}, api.ErrWater
	}
	return upTo(mark), api.OK
}

// Prove returns the proof on which the answer Yes for a leg rests.
func Prove(v api.Survey, l api.Lines, x api.Leg) (api.Proof, api.Errno) {
	w, e := atMark(v, l, x, 0)
	if e != api.OK {
		return api.Proof{}, e
	}
	return offsets.Prove(v, w, false)
}

// CheckProof reports whether a proof shows that a mass keeps the mark in a leg.
func CheckProof(v api.Survey, l api.Lines, x api.Leg, mass int, p api.Proof) api.Errno {
	w, e := atMark(v, l, x, mass)
	if e != api.OK {
		return e
	}
	return offsets.CheckProof(v, w, false, ceil(mass*perKilo, x.Dense.Lo), p)
}
