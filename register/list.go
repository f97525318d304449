package register

import (
	"slices"

	"moorsom/api"
)

// find is the index of a place in a valid register, or the one at which it
// would stand, and whether the register has it.
func find(g api.Register, at api.Place) (int, bool) {
	return slices.BinarySearchFunc(g.Records, at, func(r api.Record, at api.Place) int { return byPlace(r.At, at) })
}

func cloneRegister(g api.Register) api.Register {
	return api.Register{Records: slices.Clone(g.Records)}
}

// join returns the records of two valid registers.
func join(a, b api.Register) (api.Register, api.Errno) {
	all := cloneRegister(a)
	for _, r := range b.Records {
		i, found := find(all, r.At)
		if found && all.Records[i] != r {
			return api.Register{}, api.ErrTwo
		}
		if !found {
			all.Records = slices.Insert(all.Records, i, r)
		}
	}
	if len(all.Records) > api.MaxRecords {
		return api.Register{}, api.ErrLong
	}
	return all, api.OK
}

// Add returns a register with a record.
func Add(g api.Register, r api.Record) (api.Register, api.Errno) {
	if e := Check(g); e != api.OK {
		return api.Register{}, e
	}
	if e := CheckRecord(r); e != api.OK {
		return api.Register{}, e
	}
	return join(g, api.Register{Records: []api.Record{r}})
}

// Join returns the register with the records of both.
func Join(a, b api.Register) (api.Register, api.Errno) {
	if e := Check(a); e != api.OK {
		return api.Register{}, e
	}
	if e := Check(b); e != api.OK {
		return api.Register{}, e
	}
	return join(a, b)
}

// Next is the number of an office's next record; -1 if there is none.
func Next(g api.Register, office int) int {
	if Check(g) != api.OK || !isOffice(office) {
		return -1
	}
	next := 0
	for _, r := range g.Records {
		if r.At.Office == office { // the records of an office rise
			next = r.At.Seq + 1
		}
	}
	return next
}
