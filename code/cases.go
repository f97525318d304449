package code

import (
	"iter"
	"slices"

	"moorsom/api"
)

// choices yields the choices of pieces for the first so many groups of a
// scene, in order, as cases that say nothing of the other groups and of
// tonnages.
func (s scene) choices(many int) iter.Seq[api.Case] {
	return func(yield func(api.Case) bool) {
		if many == 0 {
			yield(api.Case{})
			return
		}
		g := many - 1
		for c := range s.choices(g) {
			for piece, litres := range s.lines[g].spans(s.litres[g]) {
				c.Pieces[g], c.Litres[g] = piece, litres
				if !yield(c) {
					return
				}
			}
		}
	}
}

// cases returns the cases of a scene.
func (s scene) cases() ([]api.Case, api.Errno) {
	var cases []api.Case
	for c := range s.choices(api.MaxGroups) {
		if len(cases) == api.MaxCases {
			return nil, api.ErrLong
		}
		c.Tonnages = scene{s.lines, c.Litres}.judge()
		cases = append(cases, c)
	}
	return cases, api.OK
}

// Cases returns the cases of the thresholds.
func Cases(c api.Code, day, formula int, l []api.Room) ([]api.Case, api.Errno) {
	s, e := sceneOn(c, day, formula, l)
	if e != api.OK {
		return nil, e
	}
	return s.cases()
}

// CheckCases reports whether cases show a range of tonnages.
func CheckCases(c api.Code, day, formula int, l []api.Room, cases []api.Case) (api.Range, api.Errno) {
	all, e := Cases(c, day, formula, l)
	if e != api.OK {
		return api.Range{}, e
	}
	if !slices.Equal(cases, all) {
		return api.Range{}, api.ErrCase
	}
	shown := cases[0].Tonnages // there is at least one case
	for _, one := range cases {
		shown.Lo = min(shown.Lo, one.Tonnages.Lo)
		shown.Hi = max(shown.Hi, one.Tonnages.Hi)
	}
	return shown, api.OK
}

// Opens returns the thresholds within the litres of groups.
func Opens(c api.Code, day, formula int, l []api.Room) ([]api.Open, api.Errno) {
	s, e := sceneOn(c, day, formula, l)
	if e != api.OK {
		return nil, e
	}
	var opens []api.Open
	for g, litres := range s.litres {
		for i, p := range s.lines[g].pieces {
			// The first piece is from 0 on, and no litres are less.
			if litres.Lo < p.From && p.From <= litres.Hi {
				opens = append(opens, api.Open{Group: g + 1, Piece: i, From: p.From})
			}
		}
	}
	return opens, api.OK
}
