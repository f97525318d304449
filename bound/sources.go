package bound

import (
	"slices"

	"moorsom/api"
)

// rising sorts numbers and leaves each of them once.
func rising(l []int) []int {
	slices.Sort(l)
	return slices.Compact(l)
}

// Sources returns the sources of a system.
func Sources(s api.System) []int {
	sources := make([]int, 0, len(s.Limits))
	for _, l := range s.Limits {
		sources = append(sources, l.By)
	}
	return rising(sources)
}

// notOf returns the question whether a source is none of some.
func notOf(by []int) func(source int) bool {
	gone := rising(slices.Clone(by))
	return func(source int) bool {
		_, found := slices.BinarySearch(gone, source)
		return !found
	}
}

// part is the system with the limits whose sources are such as a question says.
func part(s api.System, ask func(source int) bool) api.System {
	var limits []api.Limit
	for _, l := range s.Limits {
		if ask(l.By) {
			limits = append(limits, l)
		}
	}
	return api.System{Many: s.Many, Limits: limits}
}

// Without is the system without the limits of some sources.
func Without(s api.System, by []int) api.System { return part(s, notOf(by)) }

// clash reports whether the limits of some sources alone are open.
func clash(s api.System, by []int) bool {
	others := notOf(by)
	return !sound(part(s, func(source int) bool { return !others(source) }))
}

// Moves returns the sources without which the least or the greatest sum is another one.
func Moves(s api.System, w []int) ([]int, api.Errno) {
	low, high, e := solveBoth(s, w)
	if e != api.OK {
		return nil, e
	}
	lo, hi := -low.sum(), high.sum()
	stays := func(source int) bool {
		least, greatest, e := Range(Without(s, []int{source}), w)
		return e == api.OK && least == lo && greatest == hi
	}
	// Without another source both proofs stand, and with them both ends.
	used := slices.Concat(low.sources(), high.sources())
	return slices.DeleteFunc(rising(used), stays), api.OK
}

// sources returns the sources of the limits that a flow takes.
func (f *flow) sources() []int {
	var l []int
	for i, n := range f.times {
		if n > 0 {
			l = append(l, f.Limits[i].By)
		}
	}
	return l
}

// except returns a list without the element with an index.
func except(l []int, index int) []int {
	return slices.Delete(slices.Clone(l), index, index+1)
}

// Conflict returns sources that cannot all be right, none of which can be left out.
func Conflict(s api.System) ([]int, api.Errno) {
	if e := Check(s); e != api.OK {
		return nil, e
	}
	if sound(s) {
		return nil, api.ErrNone
	}
	kept := Sources(s)
	for i := len(kept) - 1; i >= 0; i-- {
		if less := except(kept, i); clash(s, less) {
			kept = less
		}
	}
	return kept, api.OK
}

// CheckConflict reports whether sources cannot all be right, and none of them can be left out.
func CheckConflict(s api.System, by []int) api.Errno {
	if e := Check(s); e != api.OK {
		return e
	}
	if !someOf(by, Sources(s)) || !clash(s, by) {
		return api.ErrConflict
	}
	for i := range by {
		if clash(s, except(by, i)) {
			return api.ErrConflict
		}
	}
	return api.OK
}

// someOf reports whether numbers rise, and are all in a list that rises.
func someOf(l, all []int) bool {
	for i, n := range l {
		if i > 0 && l[i-1] >= n {
			return false
		}
		if _, found := slices.BinarySearch(all, n); !found {
			return false
		}
	}
	return true
}
