package offsets

import (
	"slices"

	"moorsom/api"
	"moorsom/bound"
)

// Clash returns sources that cannot all be right, none of which can be left out.
func Clash(v api.Survey) ([]int, api.Errno) {
	s, e := sheetOf(v)
	if e != api.OK {
		return nil, e
	}
	return bound.Conflict(s.System)
}

// reported returns the sources of the readings and the comparisons, rising.
func reported(v api.Survey) []int {
	var sources []int
	for _, r := range v.Readings {
		sources = append(sources, r.Source)
	}
	for _, c := range v.Compares {
		sources = append(sources, c.Source)
	}
	slices.Sort(sources)
	return slices.Compact(sources)
}

// Sources returns the sources of a survey.
func Sources(v api.Survey) ([]int, api.Errno) {
	if e := Check(v); e != api.OK {
		return nil, e
	}
	sources := append(reported(v), v.Space.Source)
	slices.Sort(sources)
	return slices.Compact(sources), api.OK
}

// copyOf is an equal survey of new memory.
func copyOf(v api.Survey) api.Survey {
	v.Space.Stations = slices.Clone(v.Space.Stations)
	v.Space.Waters = slices.Clone(v.Space.Waters)
	v.Readings = slices.Clone(v.Readings)
	v.Compares = slices.Clone(v.Compares)
	return v
}

// without is a survey, of new memory, without what a source reported.
func without(v api.Survey, source int) api.Survey {
	less := copyOf(v)
	less.Readings = slices.DeleteFunc(less.Readings, func(r api.Reading) bool { return r.Source == source })
	less.Compares = slices.DeleteFunc(less.Compares, func(c api.Compare) bool { return c.Source == source })
	return less
}

// Without is a survey without the readings and the comparisons of a source.
func Without(v api.Survey, source int) (api.Survey, api.Errno) {
	if e := Check(v); e != api.OK {
		return api.Survey{}, e
	}
	if !slices.Contains(reported(v), source) {
		return api.Survey{}, api.ErrNone
	}
	return without(v, source), api.OK
}

// Rests returns the sources of readings and comparisons without which the
// range of a quantity is another one.
func Rests(v api.Survey, w api.What) ([]int, api.Errno) {
	whole, e := Bound(v, w)
	if e != api.OK {
		return nil, e
	}
	stays := func(source int) bool {
		left, e := Bound(without(v, source), w)
		return e == api.OK && left == whole
	}
	return slices.DeleteFunc(reported(v), stays), api.OK
}
