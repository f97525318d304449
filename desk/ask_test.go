package desk_test

import (
	"slices"
	"testing"

	"moorsom/api"
	"moorsom/bound"
	"moorsom/desk"
	"moorsom/life"
	"moorsom/offsets"
	"moorsom/probe"
)

// recordOf is the record of an event of the ship 7.
func recordOf(t *testing.T, x api.Event) api.Record {
	t.Helper()
	r, e := life.Write(x)
	mustHold(t, e, x)
	return r
}

// built is the event that builds the ship 7.
func built(office, seq int) api.Event {
	s := space()
	s.Id, s.Source = 100, life.Source(place(office, seq))
	return api.Event{At: place(office, seq), Kind: api.EvBuild, Ship: 7, Day: 10, Known: 10, Num: 2, Space: s}
}

func flagged(office, seq int) api.Event {
	return api.Event{At: place(office, seq), Kind: api.EvFlag, Ship: 7, Day: 20, Known: 30, Num: 3}
}

func compared(office, seq int) api.Event {
	return api.Event{
		At: place(office, seq), Kind: api.EvTape, Ship: 7, Day: 20, Known: 30,
		Compare: api.Compare{Source: life.Source(place(office, seq)), Tape: 1, From: 0, To: 9, Lo: 5, Hi: 15},
	}
}

func withdrawn(office, seq, of int) api.Event {
	return api.Event{At: place(office, seq), Kind: api.EvWithdraw, Known: 40, Of: place(office, of)}
}

func leased(seq int) api.Record {
	return api.Record{At: place(7, seq), Kind: api.RecLease, Ship: 7, To: 2, Day: 5, Until: 10, Known: 5}
}

// TestEvents is P10.2 for Events: records that are no events count for
// nothing.
func TestEvents(t *testing.T) {
	odd := recordOf(t, flagged(3, 1))
	odd.Text = "03" // life.Write would not write it so
	unknown := recordOf(t, flagged(3, 2))
	unknown.Kind = 11
	last := recordOf(t, flagged(3, 3))
	last.Kind = 29
	events := []api.Event{built(0, 4), flagged(3, 4), compared(3, 5), withdrawn(3, 6, 4), withdrawn(7, 1, 0)}
	g := api.Register{Records: []api.Record{
		recordOf(t, events[0]), odd, unknown, last, recordOf(t, events[1]), recordOf(t, events[2]),
		recordOf(t, events[3]), leased(0), recordOf(t, events[4]), leased(2),
	}}
	if l, e := desk.Events(g); e != api.OK || !same(l, events) {
		t.Error(l, e)
	}
	for _, g := range []api.Register{{}, {Records: []api.Record{leased(0)}}} {
		if l, e := desk.Events(g); e != api.OK || len(l) != 0 {
			t.Error(l, e)
		}
	}
}

// tapes is a register with so many comparisons.
func tapes(t *testing.T, many int) api.Register {
	var g api.Register
	for i := range many {
		g.Records = append(g.Records, recordOf(t, compared(1, i)))
	}
	return g
}

// TestEventsErrors is P10.2 for Events: registers, and lists of events, that
// are not valid.
func TestEventsErrors(t *testing.T) {
	if l, e := desk.Events(tapes(t, api.MaxCompares)); e != api.OK || len(l) != api.MaxCompares {
		t.Error(l, e)
	}
	if l, e := desk.Events(tapes(t, api.MaxCompares+1)); e != api.ErrEvents || len(l) != 0 {
		t.Error(l, e)
	}
	bad := tapes(t, api.MaxCompares+1)
	slices.Reverse(bad.Records)
	wrong := api.Register{Records: []api.Record{{At: place(9, 0), Kind: 2, Ship: 7}}}
	var long api.Register
	for i := range api.MaxRecords + 1 {
		long.Records = append(long.Records, recordOf(t, flagged(1, i)))
	}
	for _, g := range []api.Register{bad, wrong, long} {
		if l, e := desk.Events(g); e != api.ErrRegister || len(l) != 0 {
			t.Error(l, e)
		}
	}
	long.Records = long.Records[1:]
	if l, e := desk.Events(long); e != api.OK || len(l) != api.MaxEvents {
		t.Error(len(l), e)
	}
}

// quantities are some of all kinds.
func quantities() []api.What {
	return []api.What{
		litres(), {Kind: api.WhatPlane, Water: 1}, {Kind: api.WhatSection, Station: 1}, {Kind: api.WhatOffset, Station: 1, Water: 1},
	}
}

// TestQuestion is P10.2 for Question, and the first part of P10.4: if it is
// settled, both ends of the quantity differ by at most the width.
func TestQuestion(t *testing.T) {
	v := survey()
	for _, w := range quantities() {
		system, e := offsets.System(v)
		mustHold(t, e)
		weights, divisor, e := offsets.Weights(v.Space, w)
		mustHold(t, e)
		weights = append(weights, 0, 0) // two tape days
		r, e := offsets.Bound(v, w)
		mustHold(t, e)
		settled := 0
		for width := range 300 {
			q, e := desk.Question(v, w, width)
			mustHold(t, e)
			if !same(q, api.Ask{System: system, Weights: weights, Width: width * divisor}) {
				t.Fatal(w, width, q)
			}
			is, e := probe.Settled(q)
			mustHold(t, e)
			if is && r.Hi-r.Lo > width {
				t.Error(w, width, r)
			}
			if is {
				settled++
			}
		}
		if settled == 0 || settled == 300 {
			t.Error(w, settled)
		}
	}
}

// TestQuestionExample is the example of the chapter.
func TestQuestionExample(t *testing.T) {
	q, e := desk.Question(survey(), litres(), 100)
	mustHold(t, e)
	n, e := probe.Width(q)
	if e != api.OK || q.Width != 64800000000 || n != 132840000000 {
		t.Error(q.Width, n, e)
	}
	if is, e := probe.Settled(q); e != api.OK || is {
		t.Error(is, e)
	}
}

// grid is a space with so many offsets.
func grid(stations, waters, long, high int) api.Space {
	s := space()
	s.Stations, s.Waters = nil, nil
	for i := range stations {
		s.Stations = append(s.Stations, i*long/(stations-1))
	}
	for i := range waters {
		s.Waters = append(s.Waters, i*high/(waters-1))
	}
	return s
}

// TestQuestionErrors is P10.2 for Question: the errors, in order.
func TestQuestionErrors(t *testing.T) {
	good, wrong, big := survey(), survey(), survey()
	wrong.Readings = append(wrong.Readings, api.Reading{Source: 15, Value: 300, Tolerance: 10, Tape: 1, Day: 5})
	big.Space = grid(6, 6, 5000, 5000)
	vast := api.Survey{Space: grid(2, 2, 100000, 15000)}
	bad := survey()
	bad.Space.Id = 0
	high := litres()
	high.Water = 2
	for _, x := range []struct {
		v     api.Survey
		w     api.What
		width int
		e     api.Errno
	}{
		{bad, high, -1, api.ErrSpace},
		{wrong, high, -1, api.ErrWhat},
		{wrong, litres(), -1, api.ErrFalse},
		{good, high, -1, api.ErrWhat},
		{good, litres(), -1, api.ErrArg},
		{good, litres(), 1000000001, api.ErrArg},
		{good, litres(), 1 << 62, api.ErrArg},
		{big, litres(), -1, api.ErrArg},
		{big, litres(), 0, api.ErrLong},
		{vast, litres(), 1000000001, api.ErrArg},
		{vast, litres(), 1000000000, api.ErrWeight},
		{good, litres(), 0, api.OK},
		{good, litres(), 1000000000, api.OK},
	} {
		q, e := desk.Question(x.v, x.w, x.width)
		if e != x.e || e != api.OK && !same(q, api.Ask{}) {
			t.Error(x, q, e)
		}
		if e == api.OK && q.Width != x.width*648000000 {
			t.Error(x, q)
		}
	}
}

// TestProbes is P10.2 for Probes.
func TestProbes(t *testing.T) {
	v := api.Survey{Space: grid(3, 2, 2000, 1000)}
	tries := []api.Try{{Station: 2, Water: 1, Tolerance: 7}, {}, {Station: 1, Water: 0, Tolerance: 1000}, {Station: 2, Water: 1}}
	want := []api.Probe{{Unknown: 6, Tolerance: 7}, {Unknown: 1}, {Unknown: 3, Tolerance: 1000}, {Unknown: 6}}
	if l, e := desk.Probes(v, tries); e != api.OK || !same(l, want) {
		t.Error(l, e)
	}
	if l, e := desk.Probes(v, nil); e != api.OK || len(l) != 0 {
		t.Error(l, e)
	}
	eight := slices.Concat(tries, tries)
	if l, e := desk.Probes(v, eight); e != api.OK || !same(l, slices.Concat(want, want)) {
		t.Error(l, e)
	}
	q, e := desk.Question(v, litres(), 5)
	mustHold(t, e)
	mustHold(t, probe.CheckProbes(q, want))
}

// TestProbesErrors is P10.2 for Probes: the errors, in order.
func TestProbesErrors(t *testing.T) {
	v, bad := survey(), survey()
	bad.Readings[0].Source = 0
	wrong := []api.Try{{Station: 2}, {Water: 2}, {Station: -1}, {Water: -1}, {Tolerance: 1001}, {Tolerance: -1}}
	for _, x := range wrong {
		if l, e := desk.Probes(v, []api.Try{{}, x, {}}); e != api.ErrTry || len(l) != 0 {
			t.Error(x, l, e)
		}
	}
	nine := slices.Repeat([]api.Try{{Station: 1, Water: 1, Tolerance: 1}}, 9)
	if l, e := desk.Probes(v, nine[1:]); e != api.OK || len(l) != 8 {
		t.Error(l, e)
	}
	nine[0] = wrong[0]
	if l, e := desk.Probes(v, nine); e != api.ErrLong || len(l) != 0 {
		t.Error(l, e)
	}
	if l, e := desk.Probes(bad, nine); e != api.ErrReading || len(l) != 0 {
		t.Error(l, e)
	}
	if l, e := desk.Probes(bad, nil); e != api.ErrReading || len(l) != 0 {
		t.Error(l, e)
	}
}

// TestSettled is P10.4: the readings that Fewest picks settle the question,
// whatever hull the ship has and whatever they tell.
func TestSettled(t *testing.T) {
	v := api.Survey{Space: space()}
	v.Space.Fair = api.Fair{Along: 40, Up: 30}
	v.Compares = []api.Compare{{Source: 50, Tape: 9, From: 0, To: 100}} // it errs by nothing
	tries := []api.Try{{Tolerance: 10}, {Water: 1, Tolerance: 8}, {Station: 1, Tolerance: 6}, {Station: 1, Water: 1, Tolerance: 4}}
	lengths := map[int]bool{}
	for _, width := range []int{40, 60, 75, 80, 100, 150, 50000} {
		q, e := desk.Question(v, litres(), width)
		mustHold(t, e)
		l, e := desk.Probes(v, tries)
		mustHold(t, e)
		pick, e := probe.Fewest(q, l)
		if e == api.ErrWide {
			continue
		}
		mustHold(t, e)
		lengths[len(pick.Probes)] = true
		for picks := range 60 {
			system, e := offsets.System(v)
			mustHold(t, e)
			hull, e := bound.Point(system, []int{picks * 331, picks * 7, picks * 13, picks * 5})
			mustHold(t, e)
			known := v
			for i, p := range pick.Probes {
				x := tries[p]
				value := hull[1+2*x.Station+x.Water] + (picks*(i+3))%(2*x.Tolerance+1) - x.Tolerance
				known.Readings = append(slices.Clone(known.Readings), api.Reading{
					Source: 60 + i, Station: x.Station, Water: x.Water, Value: min(max(value, 0), 20000-x.Tolerance), Tolerance: x.Tolerance, Tape: 9, Day: 50,
				})
			}
			r, e := offsets.Bound(known, litres())
			mustHold(t, e)
			if r.Hi-r.Lo > width {
				t.Error(width, pick.Probes, hull, r)
			}
		}
	}
	if len(lengths) < 3 {
		t.Error("too few choices were picked:", lengths)
	}
}
