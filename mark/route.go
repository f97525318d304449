package mark

import (
	"cmp"

	"moorsom/api"
	"moorsom/offsets"
)

// Masses returns the mass of the ship at the beginning of each leg, and at the end.
func Masses(r api.Route, mass api.Range) ([]api.Range, api.Errno) {
	if e := cmp.Or(CheckRoute(r), checkMass(mass)); e != api.OK {
		return nil, e
	}
	masses := []api.Range{mass}
	for _, x := range r.Legs {
		mass = api.Range{Lo: max(mass.Lo-x.Burn.Hi, 0), Hi: max(mass.Hi-x.Burn.Lo, 0)}
		masses = append(masses, mass)
	}
	return masses, api.OK
}

// A voyage is a route under way, with the survey of the ship's hull.
type voyage struct {
	api.Survey
	legs []leg
}

// A leg is one of a voyage.
type leg struct {
	api.Leg
	mass  api.Range // at its beginning
	mark  int
	bears api.Range // the displacement at the mark, where it is measured
}

// underWay checks a departure and finds the marks of its legs.
func underWay(v api.Survey, l api.Lines, r api.Route, mass api.Range) (*voyage, api.Errno) {
	if e := cmp.Or(offsets.Check(v), CheckLines(l)); e != api.OK {
		return nil, e
	}
	masses, e := Masses(r, mass)
	if e != api.OK {
		return nil, e
	}
	y := &voyage{Survey: v}
	for i, x := range r.Legs {
		mark, e := lowest(y.Space, l, x)
		if e != api.OK {
			return nil, e
		}
		y.legs = append(y.legs, leg{Leg: x, mass: masses[i], mark: mark})
	}
	return y, api.OK
}

// measured is a voyage for which it is measured what the marks bear.
func measured(v api.Survey, l api.Lines, r api.Route, mass api.Range) (*voyage, api.Errno) {
	y, e := underWay(v, l, r, mass)
	if e != api.OK {
		return nil, e
	}
	table, e := Table(y.Survey)
	if e != api.OK {
		return nil, e
	}
	for i, x := range y.legs {
		y.legs[i].bears = displacement(table[x.mark], x.Dense)
	}
	return y, api.OK
}
