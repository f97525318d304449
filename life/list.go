package life

import (
	"slices"

	"moorsom/api"
)

// find is the index of a place in a valid list, or the one at which it would
// stand, and whether the list has it.
func find(l []api.Event, at api.Place) (int, bool) {
	return slices.BinarySearchFunc(l, at, func(x api.Event, at api.Place) int { return byPlace(x.At, at) })
}

// join returns the events of both lists, which are valid.
func join(a, b []api.Event) ([]api.Event, api.Errno) {
	all := cloneEvents(a)
	for _, x := range b {
		i, found := find(all, x.At)
		if found && !sameEvent(all[i], x) {
			return nil, api.ErrSame
		}
		if !found {
			all = slices.Insert(all, i, cloneEvent(x))
		}
	}
	if Check(all) != api.OK {
		return nil, api.ErrLong
	}
	return all, api.OK
}

// Add returns a list with one more event.
func Add(l []api.Event, x api.Event) ([]api.Event, api.Errno) {
	if e := Check(l); e != api.OK {
		return nil, e
	}
	if e := CheckEvent(x); e != api.OK {
		return nil, e
	}
	return join(l, []api.Event{x})
}

// Join returns the events of both lists.
func Join(a, b []api.Event) ([]api.Event, api.Errno) {
	if e := Check(a); e != api.OK {
		return nil, e
	}
	if e := Check(b); e != api.OK {
		return nil, e
	}
	return join(a, b)
}

// Without returns a list without an event.
func Without(l []api.Event, at api.Place) ([]api.Event, api.Errno) {
	if e := Check(l); e != api.OK {
		return nil, e
	}
	i, found := find(l, at)
	if !found {
		return nil, api.ErrNone
	}
	return slices.Delete(cloneEvents(l), i, i+1), api.OK
}
