package life

import (
	"cmp"
	"slices"

	"moorsom/api"
	"moorsom/offsets"
)

// A making is a state that comes about, event by event. Ahead of the ship's
// being there it is the zero value.
type making struct {
	api.State
	compares   []api.Compare // those of all surveys
	done, void []api.Place   // of the events that were taken
}

// isThere reports whether the ship is there.
func (m *making) isThere() bool { return m.Ship != 0 }

// now is the state as it is: what happens to it later writes into none of its
// lists but that of its cells.
func (m *making) now() api.State {
	s := m.State
	s.Cells = slices.Clone(s.Cells)
	return s
}

// deeds tells, by the kind of an event, what it does. It returns false if the
// event is void.
func deeds() map[int]func(*making, api.Event) bool {
	return map[int]func(*making, api.Event) bool{
		api.EvBuild:   (*making).build,
		api.EvRoom:    (*making).addRoom,
		api.EvGone:    (*making).removeRoom,
		api.EvKind:    (*making).setKind,
		api.EvOpening: (*making).setOpening,
		api.EvCrew:    (*making).setCrew,
		api.EvFlag:    (*making).setFlag,
		api.EvRead:    (*making).read,
	}
}

// take does what events do, one behind the other.
func (m *making) take(events []api.Event) {
	deeds := deeds()
	for _, x := range events {
		isBuild := x.Kind == api.EvBuild
		// A ship is built once, and all else happens to one that is there.
		if m.isThere() != isBuild && deeds[x.Kind](m, x) {
			m.done = append(m.done, x.At)
		} else {
			m.void = append(m.void, x.At)
		}
	}
}

// survey is that of a new space.
func (m *making) survey(s api.Space) api.Survey {
	return api.Survey{Space: cloneSpace(s), Compares: slices.Clone(m.compares)}
}

// cell is the index of the cell of a room, or the one at which it would
// stand, and whether there is one.
func (m *making) cell(room int) (int, bool) {
	return slices.BinarySearchFunc(m.Cells, room, func(c api.Cell, room int) int { return cmp.Compare(c.Room.Id, room) })
}

// surveyOf is the survey of the hull or of a room; nil if there is none.
func (m *making) surveyOf(id int) *api.Survey {
	if m.isThere() && m.Hull.Space.Id == id {
		return &m.Hull
	}
	if i, found := m.cell(id); found {
		return &m.Cells[i].Survey
	}
	return nil
}

func (m *making) build(x api.Event) bool {
	m.Ship, m.Flag, m.Hull = x.Ship, x.Num, m.survey(x.Space)
	return true
}

func (m *making) addRoom(x api.Event) bool {
	id := x.Space.Id
	if m.surveyOf(id) != nil || len(m.Cells) == api.MaxRooms {
		return false
	}
	i, _ := m.cell(id)
	room := api.Room{Id: id, Kind: x.Num, Opening: x.Opening, Crew: x.Crew}
	m.Cells = slices.Insert(m.Cells, i, api.Cell{Room: room, Survey: m.survey(x.Space)})
	return true
}

func (m *making) removeRoom(x api.Event) bool {
	i, found := m.cell(x.Room)
	if found {
		m.Cells = slices.Delete(m.Cells, i, i+1)
	}
	return found
}

// change sets something of a room, if there is one.
func (m *making) change(room int, set func(*api.Room)) bool {
	i, found := m.cell(room)
	if found {
		set(&m.Cells[i].Room)
	}
	return found
}

func (m *making) setKind(x api.Event) bool {
	return m.change(x.Room, func(r *api.Room) { r.Kind = x.Num })
}

func (m *making) setOpening(x api.Event) bool {
	return m.change(x.Room, func(r *api.Room) { r.Opening = x.Num })
}

func (m *making) setCrew(x api.Event) bool {
	return m.change(x.Room, func(r *api.Room) { r.Crew = x.Num })
}

func (m *making) setFlag(x api.Event) bool {
	m.Flag = x.Num
	return true
}

func (m *making) read(x api.Event) bool {
	v := m.surveyOf(x.Room)
	if v == nil {
		return false
	}
	more := *v
	more.Readings = append(v.Readings, x.Reading)
	if offsets.Check(more) != api.OK {
		return false
	}
	*v = more
	return true
}
