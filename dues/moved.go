package dues

import "moorsom/api"

// Moved returns the certificates of a ship that would be others without an event, as known on a day.
func Moved(f api.Files, ship, known int, at api.Place) ([]api.Cert, api.Errno) {
	b, e := ofShip(f, ship, known)
	if e != api.OK {
		return nil, e
	}
	less, e := b.without(at)
	if e != api.OK {
		return nil, e
	}
	return notIn(b.certs(ship, known), less.certs(ship, known)), api.OK
}

// MovedDues returns the passages that would cost something else without an event, as known on a day.
func MovedDues(f api.Files, known int, at api.Place) ([]int, api.Errno) {
	b, e := onDays(f, known)
	if e != api.OK {
		return nil, e
	}
	less, e := b.without(at)
	if e != api.OK {
		return nil, e
	}
	var moved []int
	for _, p := range f.Passages {
		if b.due(p, known) != less.due(p, known) {
			moved = append(moved, p.Id)
		}
	}
	return moved, api.OK
}

// Lineage returns the events without each of which the figures of a ship would be others.
func Lineage(f api.Files, ship, day, known int) ([]api.Place, api.Errno) {
	b, e := ofShip(f, ship, day, known)
	if e != api.OK {
		return nil, e
	}
	q := question{ship, day, known}
	all := b.answer(q)
	if all.e != api.OK {
		return nil, all.e
	}
	var lineage []api.Place
	for _, x := range f.Events {
		less, e := b.without(x.At)
		if e != api.OK {
			return nil, e
		}
		// Figures that are 0 differ from none at all.
		if a := less.answer(q); a.e != api.OK || a.figures != all.figures {
			lineage = append(lineage, x.At)
		}
	}
	return lineage, api.OK
}
