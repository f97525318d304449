package life_test

import (
	"math"
	"slices"
	"testing"

	"moorsom/api"
	"moorsom/life"
)

func TestSources(t *testing.T) {
	for p, want := range map[api.Place]int{
		place(0, 0): 1, place(0, 9999): 10000, place(1, 0): 10001, place(1, 5): 10006, place(8, 9999): 90000,
		place(-1, 0): 0, place(9, 0): 0, place(0, -1): 0, place(0, 10000): 0, place(math.MaxInt, math.MaxInt): 0, place(math.MinInt, 0): 0,
	} {
		if n := life.Source(p); n != want {
			t.Error(p, n)
		}
	}
	for office := range 9 {
		for seq := 0; seq < 10000; seq += 1111 {
			if p, e := life.PlaceOf(sourceOf(place(office, seq))); p != place(office, seq) || e != api.OK {
				t.Error(office, seq, p, e)
			}
		}
	}
	for _, n := range []int{0, -1, 90001, 99999, 100000, math.MaxInt, math.MinInt} {
		if p, e := life.PlaceOf(n); p != (api.Place{}) || e != api.ErrSource {
			t.Error(n, p, e)
		}
	}
}

// plain is a valid event of each kind; its place is not the first one.
func plain() []api.Event {
	events := []api.Event{
		build(10, 2, 100), room(20, 5), gone(30, 5), kind(30, 5, 2), opening(30, 5, 500), crew(30, 5, 6), flag(30, 4),
		read(30, 5, 1, 1), tape(35, 20, 30, -5, 15), {Kind: api.EvWithdraw, Known: 9, Of: place(3, 6)},
	}
	for i, x := range events {
		events[i] = put(x, place(3, 7))
	}
	return events
}

// A part is a number of an event.
type part struct {
	name string
	set  func(x *api.Event, n int)
	// in and out has, by the kinds that name it, numbers that it may and may not be.
	in, out map[int][]int
}

// all has the same for all these kinds.
func all(l []int, kinds ...int) map[int][]int {
	m := map[int][]int{}
	for _, k := range kinds {
		m[k] = l
	}
	return m
}

// common are the numbers that all events have.
func common() []part {
	ships := []int{1, 2, 3, 4, 5, 6, 7, 8, 9}
	every := append(slices.Clone(ships), 10)
	far := []int{math.MaxInt, math.MinInt}
	at := func(office, seq int) func(x *api.Event, n int) {
		return func(x *api.Event, n int) {
			if x.Kind == api.EvWithdraw {
				x.Of.Office += n * office
			}
			*x = put(*x, place(x.At.Office+n*office, x.At.Seq+n*seq))
		}
	}
	return []part{
		{"At.Office", at(1, 0), all([]int{-3, 5}, every...), all([]int{-4, 6}, every...)},
		{"At.Seq", at(0, 1), all([]int{0, 9992}, every...), all([]int{-8, 9993}, every...)},
		{"At.Seq", at(0, 1), all([]int{-7}, ships...), map[int][]int{10: {-1, -7}}},
		{"Kind", func(x *api.Event, n int) { x.Kind = n }, nil, all(append(far, 0, -1, 11, 29), every...)},
		{"Ship", func(x *api.Event, n int) { x.Ship = n }, all([]int{1, 999}, ships...), all(append(far, -1, 0, 1000), ships...)},
		{"Day", setDay, all([]int{0, 100000}, ships...), all(append(far, -1, 100001), ships...)},
		{"Known", func(x *api.Event, n int) { x.Known = n }, all([]int{0, 100000}, every...), all(append(far, -1, 100001), every...)},
	}
}

// setDay sets the day of an event, and of the reading that it may have.
func setDay(x *api.Event, n int) {
	x.Day = n
	if x.Kind == api.EvRead {
		x.Reading.Day = n
	}
}

// named are the numbers that only some events have.
func named() []part {
	far := []int{math.MaxInt, math.MinInt}
	of := func(k int, l ...int) map[int][]int { return map[int][]int{k: l} }
	spaces := func(l ...int) map[int][]int { return all(l, 1, 2) }
	rooms := []int{3, 4, 5, 6, 8}
	return []part{
		{"Room", func(x *api.Event, n int) { x.Room = n }, all([]int{1, 999}, rooms...), all(append(far, -1, 0, 1000), rooms...)},
		{"Num", func(x *api.Event, n int) { x.Num = n },
			map[int][]int{1: {1, 9}, 2: {1, 9}, 4: {1, 9}, 5: {0, 1000}, 6: {0, 999}, 7: {1, 9}},
			map[int][]int{1: {0, 10, -1}, 2: {0, 10}, 4: {0, 10}, 5: {-1, 1001}, 6: {-1, 1000}, 7: {0, 10}}},
		{"Opening", func(x *api.Event, n int) { x.Opening = n }, of(2, 0, 1000), of(2, -1, 1001)},
		{"Crew", func(x *api.Event, n int) { x.Crew = n }, of(2, 0, 999), of(2, -1, 1000)},
		{"Space.Id", func(x *api.Event, n int) { x.Space.Id = n }, spaces(1, 999), spaces(0, -1, 1000, 99999)},
		{"Space.Source", func(x *api.Event, n int) { x.Space.Source = n }, spaces(30008), spaces(0, 1, 30007, 30009)},
		{"Fair.Along", func(x *api.Event, n int) { x.Space.Fair.Along = n }, spaces(0, 100000), spaces(-1, 100001)},
		{"Fair.Up", func(x *api.Event, n int) { x.Space.Fair.Up = n }, spaces(0, 100000), spaces(-1, 100001)},
		{"Stations", func(x *api.Event, n int) { x.Space.Stations = spaceOf(1, n, 2).Stations }, spaces(2, 9), spaces(0, 1, 10)},
		{"Waters", func(x *api.Event, n int) { x.Space.Waters = spaceOf(1, 2, n).Waters }, spaces(2, 7), spaces(0, 1, 8)},
		{"Station", func(x *api.Event, n int) { x.Space.Stations = []int{0, n} }, spaces(1, 100000), spaces(0, -1, 100001)},
		{"Water", func(x *api.Event, n int) { x.Space.Waters = []int{0, n} }, spaces(1, 15000), spaces(0, -1, 15001)},
		{"Reading.Source", func(x *api.Event, n int) { x.Reading.Source = n }, of(8, 30008), of(8, 0, 1, 30007, 30009)},
		{"Reading.Station", func(x *api.Event, n int) { x.Reading.Station = n }, of(8, 0, 8), of(8, -1, 9)},
		{"Reading.Water", func(x *api.Event, n int) { x.Reading.Water = n }, of(8, 0, 6), of(8, -1, 7)},
		{"Reading.Value", func(x *api.Event, n int) { x.Reading.Value = n }, of(8, 0, 19990), of(8, -1, 19991, math.MaxInt)},
		{"Reading.Tolerance", func(x *api.Event, n int) { x.Reading.Tolerance = n }, of(8, 0, 1000), of(8, -1, 1001, math.MinInt)},
		{"Reading.Tape", func(x *api.Event, n int) { x.Reading.Tape = n }, of(8, 1, 99), of(8, 0, 100)},
		{"Reading.Day", func(x *api.Event, n int) { x.Reading.Day = n }, of(8, 30), of(8, 29, 31, 0)},
		{"Compare.Source", func(x *api.Event, n int) { x.Compare.Source = n }, of(9, 30008), of(9, 0, 1, 30007, 30009)},
		{"Compare.Tape", func(x *api.Event, n int) { x.Compare.Tape = n }, of(9, 1, 99), of(9, 0, 100)},
		{"Compare.From", func(x *api.Event, n int) { x.Compare.From = n }, of(9, 0, 30), of(9, -1, 31)},
		{"Compare.To", func(x *api.Event, n int) { x.Compare.To = n }, of(9, 20, 100000), of(9, 19, 100001)},
		{"Compare.Lo", func(x *api.Event, n int) { x.Compare.Lo = n }, of(9, -1000, 15), of(9, -1001, 16)},
		{"Compare.Hi", func(x *api.Event, n int) { x.Compare.Hi = n }, of(9, -5, 1000), of(9, -6, 1001)},
		{"Of.Office", func(x *api.Event, n int) { x.Of.Office = n }, of(10, 3), of(10, -1, 2, 4, 9)},
		{"Of.Seq", func(x *api.Event, n int) { x.Of.Seq = n }, of(10, 0, 6), of(10, -1, 7, 8, 10000)},
	}
}

// mustBeEvent holds all that takes an event against whether it is valid.
func mustBeEvent(t *testing.T, x api.Event, valid bool, what ...any) {
	t.Helper()
	want, wantList := api.OK, api.OK
	if !valid {
		want, wantList = api.ErrEvent, api.ErrEvents
	}
	r, e1 := life.Write(x)
	l, e2 := life.Add(nil, x)
	if e := life.CheckEvent(x); e != want || e1 != want || e2 != want || life.Check([]api.Event{x}) != wantList {
		t.Error(append(what, x, e, e1, e2)...)
	}
	if !valid && (r != (api.Record{}) || len(l) != 0) {
		t.Error(append(what, r, l)...)
	}
}

func TestCheckEvent(t *testing.T) {
	for _, x := range plain() {
		mustBeEvent(t, x, true)
		for _, p := range append(common(), named()...) {
			for _, n := range p.in[x.Kind] {
				y := x
				p.set(&y, n)
				mustBeEvent(t, y, true, p.name, n)
			}
			for _, n := range p.out[x.Kind] {
				y := x
				p.set(&y, n)
				mustBeEvent(t, y, false, p.name, n)
			}
		}
	}
	mustBeEvent(t, api.Event{}, false)
}

// TestOtherKinds: a kind that is none is not one without fields.
func TestOtherKinds(t *testing.T) {
	for _, k := range []int{0, -1, 11, 12, 29, 30, math.MaxInt, math.MinInt} {
		mustBeEvent(t, api.Event{At: place(3, 7), Kind: k, Ship: 7, Day: 5, Known: 5}, false)
		mustBeEvent(t, api.Event{At: place(3, 7), Kind: k, Known: 5}, false)
		mustBeEvent(t, api.Event{At: place(3, 7), Kind: k, Known: 5, Of: place(3, 6)}, false)
	}
}

// TestOtherFields: what the kind of an event does not name is zero.
func TestOtherFields(t *testing.T) {
	for _, x := range plain() {
		for _, p := range named() {
			if p.in[x.Kind] == nil {
				for _, n := range []int{1, 2, -1} {
					y := x
					p.set(&y, n)
					mustBeEvent(t, y, same(x, y), p.name, n)
				}
			}
		}
		for _, n := range []int{1, 7, -1} {
			ship, day := x, x
			ship.Ship, day.Day = n, n
			if x.Kind == api.EvWithdraw {
				mustBeEvent(t, ship, false)
				mustBeEvent(t, day, false)
			}
		}
	}
}

// TestValues: with its tolerance the value of a reading is at most MaxBreadth.
func TestValues(t *testing.T) {
	for _, c := range []struct {
		value, tolerance int
		valid            bool
	}{{20000, 0, true}, {20001, 0, false}, {19000, 1000, true}, {19001, 1000, false}, {0, 1000, true}, {20000, 1, false}} {
		x := plain()[7]
		x.Reading.Value, x.Reading.Tolerance = c.value, c.tolerance
		mustBeEvent(t, x, c.valid)
	}
}

// many is a list of so many events; of these the first ones are of tapes.
func many(n, tapes int) []api.Event {
	var l []api.Event
	for i := range n {
		x := flag(i, 1)
		if i < tapes {
			x = tape(i, 0, 5, 0, 5)
		}
		l = append(l, put(x, place(0, i)))
	}
	return l
}

// invalidLists returns lists that are not valid.
func invalidLists() [][]api.Event {
	l := [][]api.Event{many(81, 0), many(21, 21), many(80, 21), make([]api.Event, 100000), {{}}}
	for i := range example() {
		bad := example()
		bad[i].Known = -1
		twice := slices.Insert(example(), i, example()[i])
		l = append(l, bad, twice)
	}
	turned := example()
	turned[2], turned[3] = turned[3], turned[2]
	offices := []api.Event{put(flag(1, 1), place(2, 0)), put(flag(1, 1), place(1, 5))}
	others := []api.Event{put(flag(1, 1), place(2, 0)), put(flag(1, 2), place(2, 0))}
	return append(l, turned, offices, others)
}

func TestCheck(t *testing.T) {
	offices := []api.Event{put(flag(1, 1), place(1, 5)), put(flag(1, 1), place(2, 0)), put(flag(0, 1), place(2, 9))}
	for _, l := range [][]api.Event{nil, {}, example(), many(80, 20), many(80, 0), many(20, 20), offices, plain()[:1]} {
		if e := life.Check(l); e != api.OK {
			t.Error(l, e)
		}
	}
	for _, l := range invalidLists() {
		if e := life.Check(l); e != api.ErrEvents {
			t.Error(l, e)
		}
	}
}
