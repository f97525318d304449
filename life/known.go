package life

import (
	"iter"
	"slices"

	"moorsom/api"
)

// standing tells of each event of a valid list whether it stands, as known on
// a day.
func standing(l []api.Event, known int) []bool {
	stands := make([]bool, len(l))
	withdrawn := map[api.Place]bool{}
	// What withdraws an event has a greater place: from the last one on all
	// withdrawals of an event come ahead of it.
	for i, x := range slices.Backward(l) {
		stands[i] = x.Known <= known && !withdrawn[x.At]
		if stands[i] && x.Kind == api.EvWithdraw {
			withdrawn[x.Of] = true
		}
	}
	return stands
}

// stand yields the events of a valid list that stand, as known on a day.
func stand(l []api.Event, known int) iter.Seq2[int, api.Event] {
	return func(yield func(int, api.Event) bool) {
		for i, stands := range standing(l, known) {
			if stands && !yield(i, l[i]) {
				return
			}
		}
	}
}

// rising is numbers in order, each once.
func rising(l []int) []int {
	slices.Sort(l)
	return slices.Compact(l)
}

// Standing returns the indices of the events that stand, as known on a day.
func Standing(l []api.Event, known int) ([]int, api.Errno) {
	if e := checkKnown(l, known); e != api.OK {
		return nil, e
	}
	var indices []int
	for i := range stand(l, known) {
		indices = append(indices, i)
	}
	return indices, api.OK
}

// Withdrawn returns the places of the events that are withdrawn, as known on a day.
func Withdrawn(l []api.Event, known int) ([]api.Place, api.Errno) {
	if e := checkKnown(l, known); e != api.OK {
		return nil, e
	}
	var places []api.Place
	for i, stands := range standing(l, known) {
		if !stands && l[i].Known <= known {
			places = append(places, l[i].At)
		}
	}
	return places, api.OK
}

// Ships returns the ships that are there on a day, as known on a day.
func Ships(l []api.Event, day, known int) ([]int, api.Errno) {
	if e := checkKnown(l, day, known); e != api.OK {
		return nil, e
	}
	var ships []int
	for _, x := range stand(l, known) {
		if x.Kind == api.EvBuild && x.Day <= day {
			ships = append(ships, x.Ship)
		}
	}
	return rising(ships), api.OK
}

// Dates returns the days on which something of a ship became known.
func Dates(l []api.Event, ship int) ([]int, api.Errno) {
	if e := checkAsked(l, ship); e != api.OK {
		return nil, e
	}
	var dates []int
	for _, x := range l {
		if x.Ship == ship || x.Kind == api.EvTape || x.Kind == api.EvWithdraw {
			dates = append(dates, x.Known)
		}
	}
	return rising(dates), api.OK
}
