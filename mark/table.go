package mark

import (
	"cmp"
	"slices"

	"moorsom/api"
	"moorsom/offsets"
)

// upTo is the litres up to a waterline that is not the first one.
func upTo(water int) api.What { return api.What{Kind: api.WhatLitres, Water: water} }

// Table returns the litres up to each waterline.
func Table(v api.Survey) ([]api.Range, api.Errno) {
	if e := offsets.Check(v); e != api.OK {
		return nil, e
	}
	table := []api.Range{{}}
	for water := 1; water < len(v.Space.Waters); water++ {
		litres, e := offsets.Bound(v, upTo(water))
		if e != api.OK {
			return nil, e
		}
		table = append(table, litres)
	}
	return table, api.OK
}

// displaced is the mass that litres displace in water of one density.
func displaced(litres, dense int) int { return floor(litres*dense, perKilo) }

// displacement is the least and the greatest mass that some litres displace
// in water of some densities. Litres below 0, which weights below 0 make, are
// the less the denser the water is.
func displacement(litres, dense api.Range) api.Range {
	return api.Range{
		Lo: min(displaced(litres.Lo, dense.Lo), displaced(litres.Lo, dense.Hi)),
		Hi: max(displaced(litres.Hi, dense.Lo), displaced(litres.Hi, dense.Hi)),
	}
}

// Displacement returns the mass that floats the ship at a waterline.
func Displacement(v api.Survey, water int, dense api.Range) (api.Range, api.Errno) {
	if e := offsets.Check(v); e != api.OK {
		return api.Range{}, e
	}
	isWater := inside(water, 0, len(v.Space.Waters)-1)
	if e := cmp.Or(unless(isWater, api.ErrWater), checkDense(dense)); e != api.OK {
		return api.Range{}, e
	}
	table, e := Table(v)
	if e != api.OK {
		return api.Range{}, e
	}
	return displacement(table[water], dense), api.OK
}

// Draught returns the range of the waterlines to which a mass may sink the ship.
func Draught(v api.Survey, mass, dense api.Range) (api.Range, api.Errno) {
	if e := cmp.Or(offsets.Check(v), checkMass(mass), checkDense(dense)); e != api.OK {
		return api.Range{}, e
	}
	table, e := Table(v)
	if e != api.OK {
		return api.Range{}, e
	}
	may := func(litres api.Range) bool { return displacement(litres, dense).Hi >= mass.Lo }
	must := func(litres api.Range) bool { return displacement(litres, dense).Lo >= mass.Hi }
	deepest := slices.IndexFunc(table, must)
	if deepest < 0 {
		return api.Range{}, api.ErrNone
	}
	// A waterline that floats each hull with each mass floats some with some: so there is a first one of these too.
	return api.Range{Lo: slices.IndexFunc(table, may), Hi: deepest}, api.OK
}
