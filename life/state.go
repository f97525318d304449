package life

import (
	"cmp"
	"iter"
	"slices"

	"moorsom/api"
	"moorsom/offsets"
)

// A tale is what is told of a ship, as known on a day: the events that are
// taken for her states, by their days and then by their places, and those
// that compare tapes.
type tale struct{ events, tapes []api.Event }

// taleOf is the tale of a ship from a valid list.
func taleOf(l []api.Event, ship, known int) tale {
	var t tale
	for _, x := range stand(l, known) {
		switch {
		case x.Kind == api.EvTape: // whatever its ship is
			t.tapes = append(t.tapes, x)
		case x.Ship == ship: // withdrawals are of no ship
			t.events = append(t.events, x)
		}
	}
	// The list has them by their places.
	slices.SortStableFunc(t.events, func(a, b api.Event) int { return cmp.Compare(a.Day, b.Day) })
	return t
}

// taken yields the days, up to a last one, that have events to be taken, with
// these.
func (t tale) taken(last int) iter.Seq2[int, []api.Event] {
	return func(yield func(int, []api.Event) bool) {
		for rest := t.events; len(rest) > 0 && rest[0].Day <= last; {
			day, many := rest[0].Day, 1
			for many < len(rest) && rest[many].Day == day {
				many++
			}
			if !yield(day, rest[:many]) {
				return
			}
			rest = rest[many:]
		}
	}
}

// begin is a making of which nothing is done yet.
func (t tale) begin() *making {
	m := &making{}
	for _, x := range t.tapes {
		m.compares = append(m.compares, x.Compare)
	}
	return m
}

// until is what has come about on a day.
func (t tale) until(day int) *making {
	m := t.begin()
	for _, events := range t.taken(day) {
		m.take(events)
	}
	return m
}

// made examines what is asked of a ship that is there on a day, as known on a
// day, and makes her state.
func made(l []api.Event, ship, day, known int) (*making, api.Errno) {
	if e := checkAsked(l, ship, day, known); e != api.OK {
		return nil, e
	}
	m := taleOf(l, ship, known).until(day)
	if !m.isThere() {
		return nil, api.ErrShip
	}
	return m, api.OK
}

// State returns what a ship is on a day, as known on a day.
func State(l []api.Event, ship, day, known int) (api.State, api.Errno) {
	m, e := made(l, ship, day, known)
	if e != api.OK {
		return api.State{}, e
	}
	return m.State, api.OK
}

// Rests returns the places of the events that made a state.
func Rests(l []api.Event, ship, day, known int) ([]api.Place, api.Errno) {
	m, e := made(l, ship, day, known)
	if e != api.OK {
		return nil, e
	}
	rests := m.done
	for _, x := range taleOf(l, ship, known).tapes {
		rests = append(rests, x.At)
	}
	slices.SortFunc(rests, byPlace)
	return rests, api.OK
}

// Void returns the places of the events that could not be so.
func Void(l []api.Event, ship, day, known int) ([]api.Place, api.Errno) {
	if e := checkAsked(l, ship, day, known); e != api.OK {
		return nil, e
	}
	void := taleOf(l, ship, known).until(day).void
	slices.SortFunc(void, byPlace)
	return void, api.OK
}

// Survey returns what is known of a space of a ship.
func Survey(l []api.Event, ship, room, day, known int) (api.Survey, api.Errno) {
	m, e := made(l, ship, day, known)
	if e != api.OK {
		return api.Survey{}, e
	}
	v := m.surveyOf(room)
	if v == nil {
		return api.Survey{}, api.ErrWhich
	}
	return *v, api.OK
}

// Rooms returns the rooms of a state with their litres.
func Rooms(s api.State) ([]api.Room, api.Errno) {
	var rooms []api.Room
	for _, c := range s.Cells {
		whole := api.What{Kind: api.WhatLitres, Water: len(c.Survey.Space.Waters) - 1}
		litres, e := offsets.Bound(c.Survey, whole)
		if e != api.OK {
			return nil, e
		}
		room := c.Room
		room.Litres = litres
		rooms = append(rooms, room)
	}
	return rooms, api.OK
}
