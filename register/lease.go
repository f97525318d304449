package register

import (
	"cmp"
	"slices"

	"moorsom/api"
)

// leases are those on a ship, by their places.
func leases(g api.Register, ship int) []api.Record {
	return slices.DeleteFunc(slices.Clone(g.Records), func(r api.Record) bool {
		return r.Kind != api.RecLease || r.Ship != ship
	})
}

// Holder is the office that holds a lease on a ship on a day.
func Holder(g api.Register, ship, day int) (int, api.Errno) {
	if e := checkAsked(g, ship, day); e != api.OK {
		return 0, e
	}
	for _, r := range leases(g, ship) {
		if inside(day, r.Day, r.Until) {
			return r.To, api.OK
		}
	}
	return 0, api.ErrNone
}

// Free returns the days of a span on which nobody holds a lease on a ship.
func Free(g api.Register, ship, from, to int) ([]api.Range, api.Errno) {
	if e := checkAsked(g, ship, from, to); e != api.OK {
		return nil, e
	}
	if to < from {
		return nil, api.ErrArg
	}
	return free(leases(g, ship), from, to), api.OK
}

// free returns the runs of days between leases.
func free(leases []api.Record, from, to int) []api.Range {
	slices.SortFunc(leases, func(a, b api.Record) int { return cmp.Compare(a.Day, b.Day) })
	var runs []api.Range
	next := from // all days ahead of it are told of
	for _, r := range leases {
		if last := min(r.Day-1, to); next <= last {
			runs = append(runs, api.Range{Lo: next, Hi: last})
		}
		next = max(next, r.Until+1)
	}
	if next <= to {
		runs = append(runs, api.Range{Lo: next, Hi: to})
	}
	return runs
}
