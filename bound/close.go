package bound

import (
	"slices"

	"moorsom/api"
)

// Close returns, of each two unknowns, by how much at most the second one is greater.
func Close(s api.System) ([][]int, api.Errno) {
	if e := checkSound(s); e != api.OK {
		return nil, e
	}
	f := newFlow(s)
	rows := make([][]int, 0, s.Many+1)
	for from := range s.Many + 1 {
		rows = append(rows, f.distances(from))
	}
	return rows, api.OK
}

// Cycle returns limits that contradict each other, one after the other; none if there are none.
func Cycle(s api.System) ([]int, api.Errno) {
	if e := Check(s); e != api.OK {
		return nil, e
	}
	_, chain := newFlow(s).settle()
	return chain, api.OK
}

// CheckCycle reports whether limits contradict each other, one after the other.
func CheckCycle(s api.System, l []int) api.Errno {
	if e := Check(s); e != api.OK {
		return e
	}
	if len(l) == 0 || len(l) > api.MaxUses || !indices(s, l) {
		return api.ErrLimit
	}
	sum, before := 0, s.Limits[l[len(l)-1]]
	for _, i := range l {
		if s.Limits[i].A != before.B {
			return api.ErrLimit
		}
		before = s.Limits[i]
		sum += before.Most
	}
	if sum >= 0 {
		return api.ErrLimit
	}
	return api.OK
}

// indices reports whether all numbers are indices of limits.
func indices(s api.System, l []int) bool {
	return !slices.ContainsFunc(l, func(i int) bool { return !inside(i, 0, len(s.Limits)-1) })
}

// Idle returns the limits each of which says nothing that the others do not.
func Idle(s api.System) ([]int, api.Errno) {
	if e := checkSound(s); e != api.OK {
		return nil, e
	}
	var idle []int
	for i, l := range s.Limits {
		others := slices.Delete(slices.Clone(s.Limits), i, i+1)
		f := newFlow(api.System{Many: s.Many, Limits: others})
		// Where the others lead as far or less, each way along the limit can go along them.
		if f.distances(l.A)[l.B] <= l.Most {
			idle = append(idle, i)
		}
	}
	return idle, api.OK
}
