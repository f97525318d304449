package offsets

import (
	"slices"

	"moorsom/api"
)

// A sheet has a survey and the system that follows from it. Its unknowns are
// the offsets, and behind them the tape days.
type sheet struct {
	api.Survey
	api.System
	days []api.TapeDay
}

// sheetOf checks a survey and writes its sheet.
func sheetOf(v api.Survey) (*sheet, api.Errno) {
	if e := checkParts(v); e != api.OK {
		return nil, e
	}
	s := &sheet{Survey: v, days: daysOf(v.Readings)}
	s.Many = s.offsets() + len(s.days)
	// The limits of each kind stand behind all those of the kinds ahead of it.
	for _, write := range []func(){s.breadths, s.along, s.up, s.tapeErrors, s.compares, s.readings} {
		write()
	}
	if !s.fits() {
		return nil, api.ErrLong
	}
	return s, api.OK
}

// dayOf is the tape day of a reading.
func dayOf(r api.Reading) api.TapeDay { return api.TapeDay{Tape: r.Tape, Day: r.Day} }

// daysOf returns the tape days of readings, in the order in which they come first.
func daysOf(readings []api.Reading) []api.TapeDay {
	var days []api.TapeDay
	for _, r := range readings {
		if day := dayOf(r); !slices.Contains(days, day) {
			days = append(days, day)
		}
	}
	return days
}

// offsets is how many offsets the space has.
func (s *sheet) offsets() int { return len(s.Space.Stations) * len(s.Space.Waters) }

// fits reports whether there are no more unknowns and limits than a system may have.
func (s *sheet) fits() bool {
	return s.Many <= api.MaxUnknowns && len(s.Limits) <= api.MaxLimits
}

// tape returns the unknown of a tape day: the negative of its error. It
// returns false if the day is not one of the sheet.
func (s *sheet) tape(day api.TapeDay) (int, bool) {
	for i, d := range s.days {
		if d == day {
			return s.offsets() + 1 + i, true
		}
	}
	return 0, false
}

// pair writes two limits: that b is at most so much greater than a, and a
// than b.
func (s *sheet) pair(a, b, up, down, by int) {
	s.Limits = append(s.Limits, api.Limit{A: a, B: b, Most: up, By: by}, api.Limit{A: b, B: a, Most: down, By: by})
}

// breadths writes between which numbers all offsets are.
func (s *sheet) breadths() {
	for o := range offsetsOf(s.Space) {
		s.pair(0, o.unknown, api.MaxBreadth, 0, s.Space.Source)
	}
}

// change is by how much at most half-breadths differ that are so far apart,
// at so many millimetres a metre.
func change(rate, distance int) int {
	return min((rate*distance+999)/1000, api.MaxBreadth)
}

// along writes by how much offsets change from station to station.
func (s *sheet) along() {
	places := s.Space.Stations
	for o := range offsetsOf(s.Space) {
		if next := o.station + 1; next < len(places) {
			most := change(s.Space.Fair.Along, places[next]-places[o.station])
			s.pair(o.unknown, unknownOf(s.Space, next, o.water), most, most, s.Space.Source)
		}
	}
}

// up writes by how much offsets change from waterline to waterline.
func (s *sheet) up() {
	places := s.Space.Waters
	for o := range offsetsOf(s.Space) {
		if next := o.water + 1; next < len(places) {
			most := change(s.Space.Fair.Up, places[next]-places[o.water])
			s.pair(o.unknown, unknownOf(s.Space, o.station, next), most, most, s.Space.Source)
		}
	}
}

// tapeErrors writes how far tapes may err.
func (s *sheet) tapeErrors() {
	for _, day := range s.days {
		s.tapeError(day)
	}
}

// tapeError writes how far the tape of a tape day of the sheet may err.
func (s *sheet) tapeError(day api.TapeDay) {
	f, _ := s.tape(day)
	s.pair(0, f, api.MaxError, api.MaxError, s.Space.Source)
}

// compares writes what the comparisons tell of the tapes' errors.
func (s *sheet) compares() {
	for _, c := range s.Compares {
		for _, day := range s.days {
			s.compare(c, day)
		}
	}
}

// compare writes what a comparison tells of a tape day of the sheet, if it tells of it.
func (s *sheet) compare(c api.Compare, day api.TapeDay) {
	if c.Tape == day.Tape && inside(day.Day, c.From, c.To) {
		f, _ := s.tape(day)
		// An error is at least Lo where its negative is at most that of Lo.
		s.pair(0, f, -c.Lo, c.Hi, c.Source)
	}
}

// readings writes what the readings tell.
func (s *sheet) readings() {
	for _, r := range s.Readings {
		f, _ := s.tape(dayOf(r))
		u := unknownOf(s.Space, r.Station, r.Water)
		s.pair(f, u, r.Value+r.Tolerance, r.Tolerance-r.Value, r.Source)
	}
}

// use writes what is known of a tape day behind all else, if the sheet does
// not have it yet.
func (s *sheet) use(day api.TapeDay) {
	if _, found := s.tape(day); found {
		return
	}
	s.days = append(s.days, day)
	s.Many++
	s.tapeError(day)
	for _, c := range s.Compares {
		s.compare(c, day)
	}
}

// Tapes returns the tape days of a survey.
func Tapes(v api.Survey) ([]api.TapeDay, api.Errno) {
	s, e := sheetOf(v)
	if e != api.OK {
		return nil, e
	}
	return s.days, api.OK
}

// System returns the unknowns and the limits that follow from a survey.
func System(v api.Survey) (api.System, api.Errno) {
	s, e := sheetOf(v)
	if e != api.OK {
		return api.System{}, e
	}
	return s.System, api.OK
}
