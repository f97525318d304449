package offsets_test

import (
	"math"
	"slices"
	"testing"

	"moorsom/api"
	"moorsom/offsets"
)

// spaces are some, each with one thing changed in that of the chapter, and
// whether they are valid.
func spaces() (valid, invalid []api.Space) {
	make := func(change func(*api.Space)) api.Space {
		s := exampleSpace()
		change(&s)
		return s
	}
	ok := func(change func(*api.Space)) { valid = append(valid, make(change)) }
	bad := func(change func(*api.Space)) { invalid = append(invalid, make(change)) }

	for _, n := range []int{1, 2, api.MaxSource} {
		ok(func(s *api.Space) { s.Id = n })
		ok(func(s *api.Space) { s.Source = n })
	}
	for _, n := range []int{0, -1, api.MaxSource + 1, math.MaxInt, math.MinInt} {
		bad(func(s *api.Space) { s.Id = n })
		bad(func(s *api.Space) { s.Source = n })
	}
	for _, n := range []int{0, 1, api.MaxFair} {
		ok(func(s *api.Space) { s.Fair.Along = n })
		ok(func(s *api.Space) { s.Fair.Up = n })
	}
	for _, n := range []int{-1, api.MaxFair + 1, math.MaxInt, math.MinInt} {
		bad(func(s *api.Space) { s.Fair.Along = n })
		bad(func(s *api.Space) { s.Fair.Up = n })
	}
	for _, l := range [][]int{{0, 1}, {7, 100, 2000}, {0, 1, 2, 3, 4, 5, 6, 7, 8}, {0, api.MaxAlong}, {api.MaxAlong - 1, api.MaxAlong}} {
		ok(func(s *api.Space) { s.Stations = l })
	}
	for _, l := range [][]int{{0, 1}, {7, 100, 2000}, {0, 1, 2, 3, 4, 5, 6}, {0, api.MaxUp}, {api.MaxUp - 1, api.MaxUp}} {
		ok(func(s *api.Space) { s.Waters = l })
	}
	for _, l := range [][]int{nil, {}, {5}, {5, 5}, {5, 4}, {-1, 5}, {0, 1, 2, 3, 4, 5, 6, 7, 8, 9}, {0, math.MaxInt}, {math.MinInt, 0}, {0, 5, 3}, {0, api.MaxAlong + 1}} {
		bad(func(s *api.Space) { s.Stations = l })
		bad(func(s *api.Space) { s.Waters = l })
	}
	bad(func(s *api.Space) { s.Waters = []int{0, 1, 2, 3, 4, 5, 6, 7} })
	bad(func(s *api.Space) { s.Waters = []int{0, api.MaxUp + 1} })
	bad(func(s *api.Space) { *s = api.Space{} })
	return valid, invalid
}

func TestCheckSpace(t *testing.T) {
	valid, invalid := spaces()
	for _, s := range valid {
		mustHold(t, offsets.CheckSpace(s), s)
		mustHold(t, offsets.Check(api.Survey{Space: s}), s)
	}
	for _, s := range invalid {
		if e := offsets.CheckSpace(s); e != api.ErrSpace {
			t.Error(s, e)
		}
		if e := offsets.Check(api.Survey{Space: s}); e != api.ErrSpace {
			t.Error(s, e)
		}
	}
}

// readings are some of the chapter's space, each with one thing changed, and
// whether they are valid.
func readings() (valid, invalid []api.Reading) {
	good := api.Reading{Source: 30, Station: 1, Water: 1, Value: 300, Tolerance: 10, Tape: 3, Day: 7}
	make := func(change func(*api.Reading)) api.Reading {
		r := good
		change(&r)
		return r
	}
	numbers := func(lo, hi int, change func(*api.Reading, int)) {
		for _, n := range []int{lo, hi} {
			valid = append(valid, make(func(r *api.Reading) { change(r, n) }))
		}
		for _, n := range []int{lo - 1, hi + 1, math.MinInt, math.MaxInt} {
			invalid = append(invalid, make(func(r *api.Reading) { change(r, n) }))
		}
	}
	numbers(1, api.MaxSource, func(r *api.Reading, n int) { r.Source = n })
	numbers(0, 1, func(r *api.Reading, n int) { r.Station = n })
	numbers(0, 1, func(r *api.Reading, n int) { r.Water = n })
	numbers(0, api.MaxTolerance, func(r *api.Reading, n int) { r.Tolerance = n })
	numbers(0, api.MaxBreadth-10, func(r *api.Reading, n int) { r.Value = n })
	numbers(0, api.MaxBreadth, func(r *api.Reading, n int) { r.Value, r.Tolerance = n, 0 })
	numbers(0, api.MaxBreadth-api.MaxTolerance, func(r *api.Reading, n int) { r.Value, r.Tolerance = n, api.MaxTolerance })
	numbers(1, api.MaxTape, func(r *api.Reading, n int) { r.Tape = n })
	numbers(0, api.MaxDay, func(r *api.Reading, n int) { r.Day = n })
	return valid, invalid
}

func TestCheckReadings(t *testing.T) {
	valid, invalid := readings()
	for _, r := range valid {
		mustHold(t, offsets.Check(plus(example(), r)), r)
	}
	for _, r := range invalid {
		for _, v := range []api.Survey{plus(example(), r), plus(plus(api.Survey{Space: exampleSpace()}, r), valid[0])} {
			if e := offsets.Check(v); e != api.ErrReading {
				t.Error(r, e)
			}
		}
	}
	// The indices are those of the space, whichever one it is.
	s := plainSpace(3, 2, api.Fair{})
	r := api.Reading{Source: 30, Station: 2, Water: 1, Tape: 3}
	mustHold(t, offsets.Check(plus(api.Survey{Space: s}, r)))
	r.Station, r.Water = 1, 2
	if e := offsets.Check(plus(api.Survey{Space: s}, r)); e != api.ErrReading {
		t.Error(e)
	}
}

func TestCheckCompares(t *testing.T) {
	for _, c := range []struct {
		c api.Compare
		e api.Errno
	}{
		{api.Compare{Source: 1, Tape: 1, From: 0, To: 0, Lo: 0, Hi: 0}, api.OK},
		{api.Compare{Source: api.MaxSource, Tape: api.MaxTape, From: 0, To: api.MaxDay, Lo: -1000, Hi: 1000}, api.OK},
		{api.Compare{Source: 1, Tape: 1, From: api.MaxDay, To: api.MaxDay, Lo: 1000, Hi: 1000}, api.OK},
		{api.Compare{Source: 1, Tape: 1, From: 3, To: 4, Lo: -1000, Hi: -1000}, api.OK},
		{api.Compare{Source: 0, Tape: 1}, api.ErrCompare},
		{api.Compare{Source: api.MaxSource + 1, Tape: 1}, api.ErrCompare},
		{api.Compare{Source: 1, Tape: 0}, api.ErrCompare},
		{api.Compare{Source: 1, Tape: api.MaxTape + 1}, api.ErrCompare},
		{api.Compare{Source: 1, Tape: 1, From: -1}, api.ErrCompare},
		{api.Compare{Source: 1, Tape: 1, From: 4, To: 3}, api.ErrCompare},
		{api.Compare{Source: 1, Tape: 1, To: api.MaxDay + 1}, api.ErrCompare},
		{api.Compare{Source: 1, Tape: 1, From: math.MinInt, To: math.MaxInt}, api.ErrCompare},
		{api.Compare{Source: 1, Tape: 1, Lo: 1}, api.ErrCompare},
		{api.Compare{Source: 1, Tape: 1, Hi: -1}, api.ErrCompare},
		{api.Compare{Source: 1, Tape: 1, Lo: -1001}, api.ErrCompare},
		{api.Compare{Source: 1, Tape: 1, Hi: 1001}, api.ErrCompare},
		{api.Compare{Source: 1, Tape: 1, Lo: math.MinInt, Hi: math.MaxInt}, api.ErrCompare},
	} {
		v := example()
		v.Compares = append(v.Compares, c.c)
		if e := offsets.Check(v); e != c.e {
			t.Error(c, e)
		}
	}
}

// repeated are readings of one offset, with so many tape days among them.
func repeated(many, days int) []api.Reading {
	var l []api.Reading
	for i := range many {
		l = append(l, api.Reading{Source: 100 + i, Value: 500, Tolerance: 10, Tape: 1, Day: i % days})
	}
	return l
}

// comparisons are so many of tape 1 on all days.
func comparisons(many int) []api.Compare {
	var l []api.Compare
	for i := range many {
		l = append(l, api.Compare{Source: 200 + i, Tape: 1, To: api.MaxDay, Lo: -20, Hi: 20})
	}
	return l
}

// TestGreatestSurveys has those with as many of something as there may be, and with one more.
func TestGreatestSurveys(t *testing.T) {
	small, great := plainSpace(2, 2, api.Fair{}), plainSpace(9, 7, api.Fair{})
	middle := plainSpace(9, 5, api.Fair{}) // 45 offsets, 242 limits
	for _, c := range []struct {
		name             string
		v                api.Survey
		unknowns, limits int
		e                api.Errno
	}{
		{"readings", api.Survey{Space: small, Readings: repeated(60, 60)}, 64, 16 + 120 + 120, api.OK},
		{"one reading more", api.Survey{Space: small, Readings: repeated(61, 1)}, 0, 0, api.ErrLong},
		{"readings and comparisons", api.Survey{Space: small, Readings: repeated(60, 6), Compares: comparisons(20)}, 10, 16 + 12 + 240 + 120, api.OK},
		{"one comparison more", api.Survey{Space: small, Compares: comparisons(21)}, 0, 0, api.ErrLong},
		{"one tape day more", api.Survey{Space: small, Readings: repeated(60, 7), Compares: comparisons(20)}, 0, 0, api.ErrLong},
		{"unknowns", api.Survey{Space: great, Readings: repeated(26, 1)}, 64, 400, api.OK},
		{"one unknown more", api.Survey{Space: great, Readings: repeated(2, 2)}, 0, 0, api.ErrLong},
		{"limits of one reading more", api.Survey{Space: great, Readings: repeated(27, 1)}, 0, 0, api.ErrLong},
		{"limits", api.Survey{Space: middle, Readings: repeated(60, 1), Compares: comparisons(18)}, 46, 400, api.OK},
		{"limits of one comparison more", api.Survey{Space: middle, Readings: repeated(60, 1), Compares: comparisons(19)}, 0, 0, api.ErrLong},
		{"comparisons without readings", api.Survey{Space: great, Compares: comparisons(20)}, 63, 346, api.OK},
		{"great lists", api.Survey{Space: small, Readings: make([]api.Reading, 100000), Compares: make([]api.Compare, 100000)}, 0, 0, api.ErrLong},
	} {
		s, f := offsets.System(c.v)
		if e := offsets.Check(c.v); e != c.e || f != c.e || s.Many != c.unknowns || len(s.Limits) != c.limits {
			t.Error(c.name, e, f, s.Many, len(s.Limits))
		}
		if want := systemOf(c.v); c.e == api.OK && !slices.Equal(s.Limits, want.Limits) {
			t.Error(c.name, "limits")
		}
	}
}

// TestFirstError is R1: of several errors the one that is named first.
func TestFirstError(t *testing.T) {
	badSpace, badReading, badCompare := exampleSpace(), api.Reading{}, api.Compare{}
	badSpace.Id = 0
	for _, c := range []struct {
		v api.Survey
		e api.Errno
	}{
		{api.Survey{Space: badSpace, Readings: make([]api.Reading, 61), Compares: make([]api.Compare, 21)}, api.ErrSpace},
		{api.Survey{Space: badSpace, Readings: []api.Reading{badReading}, Compares: []api.Compare{badCompare}}, api.ErrSpace},
		{api.Survey{Space: exampleSpace(), Readings: make([]api.Reading, 61)}, api.ErrLong},
		{api.Survey{Space: exampleSpace(), Readings: []api.Reading{badReading}, Compares: make([]api.Compare, 21)}, api.ErrLong},
		{api.Survey{Space: exampleSpace(), Readings: []api.Reading{badReading}, Compares: []api.Compare{badCompare}}, api.ErrReading},
		{api.Survey{Space: exampleSpace(), Readings: example().Readings, Compares: []api.Compare{badCompare}}, api.ErrCompare},
		{api.Survey{Space: plainSpace(9, 7, api.Fair{}), Readings: append(repeated(2, 2), badReading)}, api.ErrReading},
		{api.Survey{Space: plainSpace(9, 7, api.Fair{}), Readings: repeated(2, 2), Compares: []api.Compare{badCompare}}, api.ErrCompare},
		{api.Survey{Space: plainSpace(9, 7, api.Fair{}), Readings: repeated(2, 2)}, api.ErrLong},
	} {
		if e := offsets.Check(c.v); e != c.e {
			t.Error(c, e)
		}
	}
}
