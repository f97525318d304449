package life_test

import (
	"cmp"
	"fmt"
	"math/rand"
	"slices"
	"testing"

	"moorsom/api"
	"moorsom/life"
	"moorsom/offsets"
)

// text is a value as text, in which nil and empty lists are the same.
func text(a any) string { return fmt.Sprint(a) }

// same holds values against each other.
func same(a, b any) bool { return text(a) == text(b) }

// mustHold fails a test if an error is not OK.
func mustHold(t *testing.T, e api.Errno, what ...any) {
	t.Helper()
	if e != api.OK {
		t.Fatal(append(what, e)...)
	}
}

func place(office, seq int) api.Place { return api.Place{Office: office, Seq: seq} }

// sourceOf is the source of a place, as the chapter says it.
func sourceOf(p api.Place) int { return 10000*p.Office + p.Seq + 1 }

// put is an event at another place, with its sources.
func put(x api.Event, p api.Place) api.Event {
	x.At = p
	switch x.Kind {
	case 1, 2:
		x.Space.Source = sourceOf(p)
	case 8:
		x.Reading.Source = sourceOf(p)
	case 9:
		x.Compare.Source = sourceOf(p)
	}
	return x
}

// spaceOf has so many stations and waters, a metre apart.
func spaceOf(id, stations, waters int) api.Space {
	s := api.Space{Id: id, Fair: api.Fair{Along: 100, Up: 200}}
	for i := range stations {
		s.Stations = append(s.Stations, 1000*i)
	}
	for i := range waters {
		s.Waters = append(s.Waters, 1000*i)
	}
	return s
}

// What may happen to the ship 7; it is known on its day.

func build(day, flag, hull int) api.Event {
	return api.Event{Kind: api.EvBuild, Ship: 7, Day: day, Known: day, Num: flag, Space: spaceOf(hull, 2, 2)}
}

func room(day, id int) api.Event {
	return api.Event{Kind: api.EvRoom, Ship: 7, Day: day, Known: day, Num: 3, Crew: 4, Space: spaceOf(id, 2, 2)}
}

func gone(day, id int) api.Event {
	return api.Event{Kind: api.EvGone, Ship: 7, Day: day, Known: day, Room: id}
}

func kind(day, id, n int) api.Event {
	return api.Event{Kind: api.EvKind, Ship: 7, Day: day, Known: day, Room: id, Num: n}
}

func opening(day, id, n int) api.Event {
	return api.Event{Kind: api.EvOpening, Ship: 7, Day: day, Known: day, Room: id, Num: n}
}

func crew(day, id, n int) api.Event {
	return api.Event{Kind: api.EvCrew, Ship: 7, Day: day, Known: day, Room: id, Num: n}
}

func flag(day, n int) api.Event {
	return api.Event{Kind: api.EvFlag, Ship: 7, Day: day, Known: day, Num: n}
}

func read(day, id, station, water int) api.Event {
	r := api.Reading{Station: station, Water: water, Value: 100, Tolerance: 10, Tape: 1, Day: day}
	return api.Event{Kind: api.EvRead, Ship: 7, Day: day, Known: day, Room: id, Reading: r}
}

func tape(day, from, to, lo, hi int) api.Event {
	return api.Event{Kind: api.EvTape, Ship: 7, Day: day, Known: day, Compare: api.Compare{Tape: 1, From: from, To: to, Lo: lo, Hi: hi}}
}

func withdraw(known, seq int) api.Event {
	return api.Event{Kind: api.EvWithdraw, Known: known, Of: place(0, seq)}
}

// of is an event of another ship.
func of(ship int, x api.Event) api.Event {
	x.Ship = ship
	return x
}

// told is an event that is known on another day.
func told(known int, x api.Event) api.Event {
	x.Known = known
	return x
}

// list gives events the places of the office 0, from 0 on.
func list(events ...api.Event) []api.Event {
	var l []api.Event
	for i, x := range events {
		l = append(l, put(x, place(0, i)))
	}
	return l
}

// example is the list of the chapter's examples.
func example() []api.Event {
	return list(build(10, 2, 100), room(20, 5), opening(30, 5, 500), told(40, read(25, 5, 0, 0)), gone(50, 5), withdraw(60, 4), told(45, tape(35, 20, 30, 5, 15)))
}

// seqs are the Seqs of places of the office 0.
func seqs(places []api.Place) []int {
	var l []int
	for _, p := range places {
		l = append(l, 100000*p.Office+p.Seq)
	}
	return l
}

// What the chapter says, by its own means.

// stands says whether an event of a list stands.
func stands(l []api.Event, x api.Event, known int) bool {
	return x.Known <= known && !slices.ContainsFunc(l, func(w api.Event) bool {
		return w.Kind == api.EvWithdraw && w.Of == x.At && stands(l, w, known)
	})
}

// A thing is the hull or a room of a ship that is thought out.
type thing struct {
	isHull bool
	room   api.Room
	survey api.Survey
}

// A ship is a state that is thought out, with the places of what made it.
type ship struct {
	there      bool
	flag       int
	things     map[int]*thing
	done, void []api.Place
	compares   []api.Compare
}

// rooms is how many rooms she has.
func (s *ship) rooms() int { return len(s.things) - 1 }

// happens does what an event does; it returns false if it is void.
func (s *ship) happens(x api.Event) bool {
	if s.there == (x.Kind == api.EvBuild) {
		return false
	}
	at := s.things[x.Room]
	switch x.Kind {
	case api.EvBuild:
		s.there, s.flag = true, x.Num
		s.things = map[int]*thing{x.Space.Id: {isHull: true, survey: api.Survey{Space: x.Space, Compares: s.compares}}}
		return true
	case api.EvFlag:
		s.flag = x.Num
		return true
	case api.EvRoom:
		if s.things[x.Space.Id] != nil || s.rooms() >= 20 {
			return false
		}
		r := api.Room{Id: x.Space.Id, Kind: x.Num, Opening: x.Opening, Crew: x.Crew}
		s.things[x.Space.Id] = &thing{room: r, survey: api.Survey{Space: x.Space, Compares: s.compares}}
		return true
	case api.EvRead:
		if at == nil {
			return false
		}
		v := at.survey
		v.Readings = append(slices.Clone(v.Readings), x.Reading)
		if offsets.Check(v) != api.OK {
			return false
		}
		at.survey = v
		return true
	}
	if at == nil || at.isHull {
		return false
	}
	switch x.Kind {
	case api.EvGone:
		delete(s.things, x.Room)
	case api.EvKind:
		at.room.Kind = x.Num
	case api.EvOpening:
		at.room.Opening = x.Num
	case api.EvCrew:
		at.room.Crew = x.Num
	}
	return true
}

// thought is a ship on a day, as known on a day.
func thought(l []api.Event, number, day, known int) *ship {
	s := &ship{}
	var events []api.Event
	for _, x := range l {
		if !stands(l, x, known) {
			continue
		}
		if x.Kind == api.EvTape {
			s.compares = append(s.compares, x.Compare)
		} else if x.Kind != api.EvWithdraw && x.Ship == number && x.Day <= day {
			events = append(events, x)
		}
	}
	order := func(x api.Event) int { return x.Day*1000000 + sourceOf(x.At) }
	slices.SortFunc(events, func(a, b api.Event) int { return cmp.Compare(order(a), order(b)) })
	for _, x := range events {
		if s.happens(x) {
			s.done = append(s.done, x.At)
		} else {
			s.void = append(s.void, x.At)
		}
	}
	return s
}

// state is what State has to tell of a ship.
func (s *ship) state(number int) api.State {
	if !s.there {
		return api.State{}
	}
	state := api.State{Ship: number, Flag: s.flag}
	for id := range 1000 {
		switch at := s.things[id]; {
		case at == nil:
		case at.isHull:
			state.Hull = at.survey
		default:
			state.Cells = append(state.Cells, api.Cell{Room: at.room, Survey: at.survey})
		}
	}
	return state
}

// inOrder is places by their sources.
func inOrder(l []api.Place) []api.Place {
	l = slices.Clone(l)
	slices.SortFunc(l, func(a, b api.Place) int { return cmp.Compare(sourceOf(a), sourceOf(b)) })
	return l
}

// less is a list without the event at a place.
func less(l []api.Event, at ...api.Place) []api.Event {
	return slices.DeleteFunc(slices.Clone(l), func(x api.Event) bool { return slices.Contains(at, x.At) })
}

// A maker makes lists of events. Its days are less than top, so that much
// happens on the same days.
type maker struct {
	*rand.Rand
	top int
}

func newMaker(seed int64, top int) maker { return maker{rand.New(rand.NewSource(seed)), top} }

// pick is one of a few numbers.
func (m maker) pick(of ...int) int { return of[m.Intn(len(of))] }

func (m maker) ship() int { return m.pick(7, 7, 7, 8, 999) }

func (m maker) space(x *api.Event) {
	x.Space = spaceOf(1+m.Intn(5), 2+m.Intn(2), 2+m.Intn(2))
	if m.Intn(6) == 0 { // so many offsets that only one tape day fits
		x.Space = spaceOf(1+m.Intn(5), 9, 7)
	}
}

// event makes an event of a kind.
func (m maker) event(of int, at api.Place) api.Event {
	x := api.Event{Kind: of, Ship: m.ship(), Day: m.Intn(m.top), Known: m.Intn(m.top)}
	if m.Intn(2) == 0 {
		x.Known = x.Day
	}
	if of >= 3 && of <= 6 || of == 8 {
		x.Room = 1 + m.Intn(5)
	}
	switch of {
	case 1:
		x.Num, x.Day = 1+m.Intn(3), m.Intn(1+m.top/3)
		if m.Intn(2) == 0 {
			x.Known = x.Day
		}
		m.space(&x)
	case 2:
		x.Num, x.Opening, x.Crew = 1+m.Intn(3), m.Intn(3), m.Intn(3)
		m.space(&x)
	case 4, 7:
		x.Num = 1 + m.Intn(3)
	case 5, 6:
		x.Num = m.Intn(3)
	case 8:
		x.Reading = api.Reading{Station: m.Intn(3), Water: m.Intn(3), Value: m.Intn(500), Tolerance: m.Intn(20), Tape: 1 + m.Intn(2), Day: x.Day}
	case 9:
		x.Compare = api.Compare{Tape: 1 + m.Intn(2), From: m.Intn(m.top), Lo: -m.Intn(20), Hi: m.Intn(20)}
		x.Compare.To = x.Compare.From + m.Intn(m.top)
	case 10:
		x.Ship, x.Day, x.Of = 0, 0, place(at.Office, m.Intn(at.Seq))
	}
	return put(x, at)
}

// list makes a list of at most so many events of some offices.
func (m maker) list(most int) []api.Event {
	var l []api.Event
	kinds := []int{1, 1, 2, 2, 2, 3, 4, 5, 6, 7, 8, 8, 8, 8, 9, 10, 10}
	for _, office := range []int{0, 3, 8} {
		seq, mean := 0, m.Intn(4)
		for range m.Intn(1 + most*2/3) {
			of := kinds[m.Intn(len(kinds))]
			if of == 10 && seq == 0 || len(l) == most {
				continue
			}
			l = append(l, m.event(of, place(office, seq)))
			seq += 1 + m.Intn(1+mean)/3
		}
	}
	return l
}

// lists tells many lists, with a maker of more.
func lists(t *testing.T, seed int64, many int, tell func(m maker, l []api.Event)) {
	t.Helper()
	m := newMaker(seed, 12)
	for range many {
		l := m.list(5 + m.Intn(40))
		mustHold(t, life.Check(l), l)
		tell(m, l)
	}
}
