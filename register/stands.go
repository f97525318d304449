package register

import (
	"slices"

	"moorsom/api"
)

// standing tells of each record of a valid register whether it stands, as
// known on a day.
func standing(g api.Register, known int) []bool {
	stands := make([]bool, len(g.Records))
	withdrawn := map[api.Place]bool{}
	// What withdraws a record has a greater place: from the last one on all
	// withdrawals of a record come ahead of it.
	for i, r := range slices.Backward(g.Records) {
		stands[i] = r.Known <= known && (r.Kind == api.RecLease || !withdrawn[r.At])
		if stands[i] && r.Kind == api.RecWithdraw {
			withdrawn[r.Of] = true
		}
	}
	return stands
}

// Stands reports whether the record of a place is not withdrawn.
func Stands(g api.Register, at api.Place) (bool, api.Errno) {
	if e := Check(g); e != api.OK {
		return false, e
	}
	i, found := find(g, at)
	if !found {
		return false, api.ErrNone
	}
	return standing(g, api.MaxDay)[i], api.OK // on the last day all is known
}

// Standing returns the events of a ship that stand, as known on a day.
func Standing(g api.Register, ship, known int) ([]api.Record, api.Errno) {
	if e := checkAsked(g, ship, known); e != api.OK {
		return nil, e
	}
	var events []api.Record
	for i, stands := range standing(g, known) {
		if r := g.Records[i]; stands && r.Kind >= api.RecEvent && r.Ship == ship {
			events = append(events, r)
		}
	}
	return events, api.OK
}

// checkAsked examines what functions are asked of a ship on days.
func checkAsked(g api.Register, ship int, days ...int) api.Errno {
	if e := Check(g); e != api.OK {
		return e
	}
	if !isShip(ship) {
		return api.ErrArg
	}
	return checkDays(days...)
}

func checkDays(days ...int) api.Errno {
	for _, day := range days {
		if !isDay(day) {
			return api.ErrDay
		}
	}
	return api.OK
}
