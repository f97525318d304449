package offsets

import (
	"moorsom/api"
	"moorsom/bound"
)

// Told is the range of the values that a further reading may tell.
func Told(v api.Survey, r api.Reading) (api.Range, api.Errno) {
	s, e := sheetOf(v)
	if e != api.OK {
		return api.Range{}, e
	}
	r.Value = 0
	if e := checkReading(v.Space, r); e != api.OK {
		return api.Range{}, e
	}
	s.use(dayOf(r))
	if !s.fits() {
		return api.Range{}, api.ErrLong
	}
	f, _ := s.tape(dayOf(r))
	weights := make([]int, s.Many+1)
	// A tape tells the offset and its error, whose negative is the unknown.
	weights[unknownOf(v.Space, r.Station, r.Water)], weights[f] = 1, -1
	lo, hi, e := bound.Range(s.System, weights)
	if e != api.OK {
		return api.Range{}, ofSurvey(e)
	}
	told := api.Range{Lo: max(lo-r.Tolerance, 0), Hi: min(hi+r.Tolerance, api.MaxBreadth-r.Tolerance)}
	if told.Lo > told.Hi {
		return api.Range{}, api.ErrNone
	}
	return told, api.OK
}

// With is a survey with one more reading, behind the others.
func With(v api.Survey, r api.Reading) (api.Survey, api.Errno) {
	if e := Check(v); e != api.OK {
		return api.Survey{}, e
	}
	if e := checkReading(v.Space, r); e != api.OK {
		return api.Survey{}, e
	}
	more := copyOf(v)
	more.Readings = append(more.Readings, r)
	if e := Check(more); e != api.OK {
		return api.Survey{}, e
	}
	return more, api.OK
}
