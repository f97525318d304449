package life_test

import (
	"slices"
	"testing"

	"moorsom/api"
	"moorsom/life"
	"moorsom/offsets"
)

func TestStateExamples(t *testing.T) {
	l := example()
	s, e := life.State(l, 7, 30, 30)
	if e != api.OK || s.Ship != 7 || s.Flag != 2 || s.Hull.Space.Id != 100 || len(s.Cells) != 1 || s.Cells[0].Room != (api.Room{Id: 5, Kind: 3, Opening: 500, Crew: 4}) || len(s.Cells[0].Survey.Readings) != 0 {
		t.Error(s, e)
	}
	s, e = life.State(l, 7, 30, 40)
	want := []api.Reading{{Source: 4, Value: 100, Tolerance: 10, Tape: 1, Day: 25}}
	if e != api.OK || !slices.Equal(s.Cells[0].Survey.Readings, want) || len(s.Hull.Compares)+len(s.Cells[0].Survey.Compares) != 0 {
		t.Error(s, e)
	}
	s, e = life.State(l, 7, 20, 45)
	compares := []api.Compare{{Source: 7, Tape: 1, From: 20, To: 30, Lo: 5, Hi: 15}}
	if e != api.OK || !slices.Equal(s.Hull.Compares, compares) || !slices.Equal(s.Cells[0].Survey.Compares, compares) || s.Cells[0].Room.Opening != 0 {
		t.Error(s, e)
	}
	for known, want := range map[int]int{50: 0, 60: 1} {
		if s, e := life.State(l, 7, 50, known); e != api.OK || len(s.Cells) != want {
			t.Error(known, s, e)
		}
	}
	if rests, e := life.Rests(l, 7, 30, 45); e != api.OK || !slices.Equal(seqs(rests), []int{0, 1, 2, 3, 6}) {
		t.Error(rests, e)
	}
	for _, c := range []struct{ ship, day, known int }{{7, 9, 100}, {7, 10, 9}, {8, 50, 60}} {
		if s, e := life.State(l, c.ship, c.day, c.known); e != api.ErrShip || !same(s, api.State{}) {
			t.Error(c, s, e)
		}
	}
	v, e := life.Survey(l, 7, 5, 30, 40)
	if e != api.OK || !same(v, api.Survey{Space: l[1].Space, Readings: []api.Reading{l[3].Reading}}) {
		t.Error(v, e)
	}
	rooms, e := life.Rooms(api.State{Cells: []api.Cell{{Room: api.Room{Id: 5, Kind: 3}, Survey: v}}})
	if e != api.OK || !slices.Equal(rooms, []api.Room{{Id: 5, Kind: 3, Litres: api.Range{Hi: 2520}}}) {
		t.Error(rooms, e)
	}
}

// mustBeSo holds all that is told of a ship on a day against the chapter.
func mustBeSo(t *testing.T, l []api.Event, ship, day, known int) {
	t.Helper()
	s := thought(l, ship, day, known)
	void, e := life.Void(l, ship, day, known)
	if e != api.OK || !slices.Equal(void, inOrder(s.void)) {
		t.Fatal("Void", l, ship, day, known, void, e)
	}
	want := api.OK
	if !s.there {
		want = api.ErrShip
	}
	state, e := life.State(l, ship, day, known)
	if e != want || !same(state, s.state(ship)) {
		t.Fatal("State", l, ship, day, known, state, e)
	}
	rests, e := life.Rests(l, ship, day, known)
	if e != want || !slices.Equal(rests, restsOf(l, s, known)) {
		t.Fatal("Rests", l, ship, day, known, rests, e)
	}
	for id := range 7 {
		want, survey := want, api.Survey{}
		if at := s.things[id]; at != nil {
			survey = at.survey
		} else if s.there {
			want = api.ErrWhich
		}
		if v, e := life.Survey(l, ship, id, day, known); e != want || !same(v, survey) {
			t.Fatal("Survey", l, ship, id, day, known, v, e)
		}
	}
}

// restsOf are the places of what made a ship, with those of all tapes.
func restsOf(l []api.Event, s *ship, known int) []api.Place {
	if !s.there {
		return nil
	}
	rests := slices.Clone(s.done)
	for _, x := range l {
		if x.Kind == api.EvTape && stands(l, x, known) {
			rests = append(rests, x.At)
		}
	}
	return inOrder(rests)
}

func TestStates(t *testing.T) {
	there, void := 0, map[int]int{}
	lists(t, 31, 500, func(m maker, l []api.Event) {
		for range 6 {
			ship, day, known := m.ship(), m.Intn(m.top+2), m.Intn(m.top+2)
			mustBeSo(t, l, ship, day, known)
			s := thought(l, ship, day, known)
			if s.there {
				there++
				for _, x := range l {
					if slices.Contains(s.void, x.At) {
						void[x.Kind]++
					}
				}
			}
		}
	})
	for k := api.EvBuild; k <= api.EvRead; k++ {
		if k != api.EvFlag && void[k] < 20 {
			t.Error("too few are void:", void)
		}
	}
	if there < 1000 {
		t.Error("too few ships are there:", there)
	}
}

// TestVoid has events one behind the other, and those of them that are void.
func TestVoid(t *testing.T) {
	for name, c := range map[string]struct {
		l    []api.Event
		void []int
	}{
		"built twice":            {list(build(1, 1, 9), build(2, 2, 8), build(1, 3, 7)), []int{1, 2}},
		"not there yet":          {list(flag(1, 2), room(1, 5), read(1, 9, 0, 0), gone(1, 5), kind(1, 5, 2), opening(1, 5, 2), crew(1, 5, 2), build(1, 1, 9)), []int{0, 1, 2, 3, 4, 5, 6}},
		"never there":            {list(flag(1, 2), room(1, 5), read(1, 9, 0, 0), tape(1, 0, 9, 0, 9)), []int{0, 1, 2}},
		"the hull's Id":          {list(build(1, 1, 9), room(2, 9), room(3, 8)), []int{1}},
		"a room's Id":            {list(build(1, 1, 9), room(2, 8), room(3, 8), room(3, 7)), []int{2}},
		"of a room that is gone": {list(build(1, 1, 9), room(2, 8), gone(3, 8), kind(4, 8, 2), opening(4, 8, 2), crew(4, 8, 2), read(4, 8, 0, 0), gone(5, 8)), []int{3, 4, 5, 6, 7}},
		"a room's Id again":      {list(build(1, 1, 9), room(2, 8), gone(3, 8), room(4, 8), kind(5, 8, 2)), nil},
		"the hull is no room":    {list(build(1, 1, 9), gone(2, 9), kind(2, 9, 2), opening(2, 9, 2), crew(2, 9, 2), read(2, 9, 0, 0)), []int{1, 2, 3, 4}},
		"no such room":           {list(build(1, 1, 9), room(1, 3), gone(2, 4), kind(2, 4, 2), opening(2, 4, 2), crew(2, 4, 2), read(2, 4, 0, 0)), []int{2, 3, 4, 5, 6}},
		"no such offset":         {list(build(1, 1, 9), read(2, 9, 1, 1), read(2, 9, 2, 1), read(2, 9, 1, 2), read(2, 9, 8, 6)), []int{2, 3, 4}},
		"the day before":         {list(build(5, 1, 9), flag(4, 2), told(5, room(4, 8)), read(6, 8, 0, 0)), []int{1, 2, 3}},
		"other ships":            {list(build(1, 1, 9), of(8, flag(2, 2)), of(8, build(3, 1, 9)), of(8, room(4, 5)), kind(5, 5, 1)), []int{4}},
		"withdrawn":              {list(build(1, 1, 9), room(2, 8), withdraw(3, 1), kind(4, 8, 2)), []int{3}},
	} {
		mustBeSo(t, c.l, 7, 50, 50)
		if void, e := life.Void(c.l, 7, 50, 50); e != api.OK || !slices.Equal(seqs(void), c.void) {
			t.Error(name, void, e)
		}
	}
}

// TestOrderOfDays: what is of an earlier day comes first, and of one day what
// has the lesser place, whatever was known first.
func TestOrderOfDays(t *testing.T) {
	l := []api.Event{
		put(build(5, 1, 9), place(1, 5)), put(flag(8, 2), place(2, 0)), put(told(90, flag(8, 3)), place(2, 1)), put(told(80, flag(8, 4)), place(3, 0)), put(flag(6, 5), place(4, 0)),
	}
	for _, c := range []struct{ day, known, flag int }{{5, 99, 1}, {6, 99, 5}, {7, 99, 5}, {8, 79, 2}, {8, 80, 4}, {8, 99, 4}, {100000, 100000, 4}} {
		if s, e := life.State(l, 7, c.day, c.known); e != api.OK || s.Flag != c.flag {
			t.Error(c, s, e)
		}
		mustBeSo(t, l, 7, c.day, c.known)
	}
	// A room that has the greater place is not there yet.
	l = []api.Event{put(build(5, 1, 9), place(0, 0)), put(kind(6, 8, 9), place(0, 1)), put(room(6, 8), place(1, 0)), put(crew(6, 8, 77), place(1, 1))}
	if s, e := life.State(l, 7, 6, 6); e != api.OK || s.Cells[0].Room != (api.Room{Id: 8, Kind: 3, Crew: 77}) {
		t.Error(s, e)
	}
}

// TestRoomAgain: a room that comes again has nothing of the one that is gone.
func TestRoomAgain(t *testing.T) {
	again := room(5, 8)
	again.Space.Stations = []int{0, 500}
	l := list(build(1, 1, 9), room(2, 8), opening(3, 8, 100), read(3, 8, 0, 0), gone(4, 8), again, read(6, 8, 1, 1))
	mustBeSo(t, l, 7, 6, 6)
	s, e := life.State(l, 7, 6, 6)
	want := api.Cell{Room: api.Room{Id: 8, Kind: 3, Crew: 4}, Survey: api.Survey{Space: l[5].Space, Readings: []api.Reading{l[6].Reading}}}
	if e != api.OK || len(s.Cells) != 1 || !same(s.Cells[0], want) {
		t.Error(s, e)
	}
	if rests, e := life.Rests(l, 7, 6, 6); e != api.OK || len(rests) != 7 {
		t.Error(rests, e)
	}
}

// TestManyRooms: twenty rooms are not too many, but one more is.
func TestManyRooms(t *testing.T) {
	events := []api.Event{build(1, 1, 500)}
	for i := range 22 {
		events = append(events, room(2, 900-i))
	}
	events = append(events, gone(3, 890), room(4, 50), room(5, 51))
	l := list(events...)
	for day, want := range map[int]int{1: 0, 2: 20, 3: 19, 4: 20, 5: 20} {
		mustBeSo(t, l, 7, day, 9)
		if s, e := life.State(l, 7, day, 9); e != api.OK || len(s.Cells) != want || !slices.IsSortedFunc(s.Cells, func(a, b api.Cell) int { return a.Room.Id - b.Room.Id }) {
			t.Error(day, len(s.Cells), e)
		}
	}
	if void, e := life.Void(l, 7, 5, 9); e != api.OK || !slices.Equal(seqs(void), []int{21, 22, 25}) {
		t.Error(void, e)
	}
}

// TestManyReadings: a survey has at most 60 readings.
func TestManyReadings(t *testing.T) {
	events := []api.Event{build(1, 1, 9)}
	for range 62 {
		events = append(events, read(2, 9, 1, 1))
	}
	l := list(events...)
	if void, e := life.Void(l, 7, 2, 2); e != api.OK || !slices.Equal(seqs(void), []int{61, 62}) {
		t.Error(void, e)
	}
	s, e := life.State(l, 7, 2, 2)
	if e != api.OK || len(s.Hull.Readings) != 60 || offsets.Check(s.Hull) != api.OK {
		t.Error(len(s.Hull.Readings), e)
	}
}

// TestManyUnknowns: a great space has room for the error of one tape day, and
// comparisons may leave no room for a reading.
func TestManyUnknowns(t *testing.T) {
	great := build(1, 1, 9)
	great.Space = spaceOf(9, 9, 7)
	other := read(2, 9, 0, 0)
	other.Reading.Tape = 2
	l := list(great, read(2, 9, 8, 6), read(2, 9, 0, 0), read(3, 9, 0, 0), other, read(2, 9, 1, 0))
	mustBeSo(t, l, 7, 5, 5)
	if void, e := life.Void(l, 7, 5, 5); e != api.OK || !slices.Equal(seqs(void), []int{3, 4}) {
		t.Error(void, e)
	}
	// The 63 offsets have 346 limits, and a tape day 2; each comparison and each reading adds two.
	events := []api.Event{great}
	for range 8 {
		events = append(events, read(2, 9, 8, 6))
	}
	for range 20 {
		events = append(events, told(7, of(8, tape(3, 0, 5, -5, 5))))
	}
	l = list(events...)
	for known, want := range map[int][]int{6: nil, 7: {7, 8}} {
		mustBeSo(t, l, 7, 2, known)
		if void, e := life.Void(l, 7, 2, known); e != api.OK || !slices.Equal(seqs(void), want) {
			t.Error(known, void, e)
		}
	}
}

// TestTapes: comparisons concern all ships and all days, as soon as they are known.
func TestTapes(t *testing.T) {
	l := list(build(1, 1, 9), of(8, build(1, 2, 9)), of(999, tape(50, 0, 5, 1, 2)), of(8, tape(2, 0, 5, 3, 4)), told(60, tape(1, 0, 5, 5, 6)), withdraw(70, 3))
	for known, want := range map[int][]int{1: nil, 2: {4}, 49: {4}, 50: {3, 4}, 60: {3, 4, 5}, 70: {3, 5}} {
		for _, ship := range []int{7, 8} {
			mustBeSo(t, l, ship, 1, known)
			s, e := life.State(l, ship, 1, known)
			var sources []int
			for _, c := range s.Hull.Compares {
				sources = append(sources, c.Source)
			}
			if e != api.OK || !slices.Equal(sources, want) {
				t.Error(ship, known, sources, e)
			}
		}
	}
}

// TestFalseSurveys: readings that contradict each other make no event void.
func TestFalseSurveys(t *testing.T) {
	other := read(2, 8, 0, 0)
	other.Reading.Value = 10000
	l := list(build(1, 1, 9), room(1, 8), read(2, 8, 0, 0), other)
	mustBeSo(t, l, 7, 2, 2)
	s, e := life.State(l, 7, 2, 2)
	if e != api.OK || len(s.Cells[0].Survey.Readings) != 2 {
		t.Error(s, e)
	}
	if rooms, e := life.Rooms(s); e != api.ErrFalse || len(rooms) != 0 {
		t.Error(rooms, e)
	}
}

// TestRooms holds the litres of rooms against what offsets tells of their surveys.
func TestRooms(t *testing.T) {
	told := 0
	lists(t, 32, 400, func(m maker, l []api.Event) {
		s, _ := life.State(l, 7, m.top, m.top)
		var want []api.Room
		first := api.OK
		for _, c := range s.Cells {
			r, e := offsets.Bound(c.Survey, api.What{Kind: api.WhatLitres, Water: len(c.Survey.Space.Waters) - 1})
			if first == api.OK {
				first = e
			}
			c.Room.Litres = r
			want = append(want, c.Room)
		}
		if first != api.OK {
			want = nil
		}
		told += len(want)
		if got, e := life.Rooms(s); e != first || !slices.Equal(got, want) {
			t.Fatal(s, got, e)
		}
	})
	if told < 100 {
		t.Error("too few rooms:", told)
	}
}

// TestAnyState: Rooms takes any state, and tells the first cell's error.
func TestAnyState(t *testing.T) {
	good := api.Cell{Room: api.Room{Id: -5, Litres: api.Range{Lo: 7, Hi: 3}}, Survey: api.Survey{Space: spaceOf(1, 2, 2)}}
	good.Survey.Space.Source = 1
	bad, long, wrong := good, good, good
	bad.Survey.Space.Id = 0
	long.Survey.Readings = make([]api.Reading, 61)
	wrong.Survey.Readings = make([]api.Reading, 1)
	for _, c := range []struct {
		cells []api.Cell
		e     api.Errno
	}{
		{nil, api.OK}, {[]api.Cell{good, good}, api.OK}, {[]api.Cell{{}}, api.ErrSpace}, {[]api.Cell{good, bad, long}, api.ErrSpace},
		{[]api.Cell{long, bad}, api.ErrLong}, {[]api.Cell{good, wrong, long}, api.ErrReading},
	} {
		rooms, e := life.Rooms(api.State{Ship: -1, Hull: bad.Survey, Cells: c.cells})
		if e != c.e || e != api.OK && len(rooms) != 0 || e == api.OK && len(rooms) != len(c.cells) {
			t.Error(c, rooms, e)
		}
		for _, r := range rooms {
			if r != (api.Room{Id: -5, Litres: api.Range{Hi: 40000}}) {
				t.Error(r)
			}
		}
	}
}
