package life

import (
	"slices"

	"moorsom/api"
)

// A moment is a day on which a ship becomes another one, and what she is from
// then on.
type moment struct {
	day   int
	state api.State
}

func sameMoment(a, b moment) bool { return a.day == b.day && sameState(a.state, b.state) }

// moments are all that a tale has, rising: what the ship is on any day
// follows from them, and other moments make her another one on some day.
func (t tale) moments() []moment {
	var moments []moment
	m, before := t.begin(), api.State{}
	for day, events := range t.taken(api.MaxDay) {
		m.take(events)
		if !sameState(m.State, before) {
			before = m.now()
			moments = append(moments, moment{day, before})
		}
	}
	return moments
}

// Days returns the days on which a ship becomes another one, as known on a day.
func Days(l []api.Event, ship, known int) ([]int, api.Errno) {
	if e := checkAsked(l, ship, known); e != api.OK {
		return nil, e
	}
	var days []int
	for _, m := range taleOf(l, ship, known).moments() {
		days = append(days, m.day)
	}
	return days, api.OK
}

// spaces are the hull and the rooms of a ship, if she is there; the hull is a
// cell without a room.
func (m *making) spaces() []api.Cell {
	if !m.isThere() {
		return nil
	}
	return append(m.Cells, api.Cell{Survey: m.Hull})
}

// notIn returns the Ids of those spaces that others do not have, or not so.
func notIn(spaces, others []api.Cell) []int {
	var ids []int
	for _, c := range spaces {
		isSame := func(other api.Cell) bool { return sameCell(c, other) }
		if !slices.ContainsFunc(others, isSame) {
			ids = append(ids, c.Survey.Space.Id)
		}
	}
	return ids
}

// Changed returns the spaces of a ship that are others, as known on another day.
func Changed(l []api.Event, ship, day, known, later int) ([]int, api.Errno) {
	if e := checkAsked(l, ship, day, known, later); e != api.OK {
		return nil, e
	}
	before := taleOf(l, ship, known).until(day).spaces()
	behind := taleOf(l, ship, later).until(day).spaces()
	if len(before)+len(behind) == 0 {
		return nil, api.ErrShip
	}
	return rising(append(notIn(before, behind), notIn(behind, before)...)), api.OK
}

// shipsOf are the ships of which a list has events.
func shipsOf(l []api.Event) []int {
	var ships []int
	for _, x := range l {
		if x.Kind != api.EvWithdraw {
			ships = append(ships, x.Ship)
		}
	}
	return rising(ships)
}

// Touched returns the ships that are others on some day, as known on a day, without an event.
func Touched(l []api.Event, at api.Place, known int) ([]int, api.Errno) {
	if e := checkKnown(l, known); e != api.OK {
		return nil, e
	}
	less, e := Without(l, at)
	if e != api.OK {
		return nil, e
	}
	var touched []int
	for _, ship := range shipsOf(l) {
		with, without := taleOf(l, ship, known).moments(), taleOf(less, ship, known).moments()
		if !slices.EqualFunc(with, without, sameMoment) {
			touched = append(touched, ship)
		}
	}
	return touched, api.OK
}
