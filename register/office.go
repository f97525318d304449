package register

import (
	"slices"

	"moorsom/api"
)

func isPlaces(l []api.Place) bool {
	for i, p := range l {
		if !isPlace(p) || i > 0 && byPlace(l[i-1], p) >= 0 {
			return false
		}
	}
	return true
}

// checkOffice reports whether an office is valid.
func checkOffice(o api.Office) api.Errno {
	j := journal{o.Drive, o.Memory}
	if !isOffice(o.Me) || !j.isSound() {
		return api.ErrOffice
	}
	for _, l := range o.Known {
		if !isPlaces(l) {
			return api.ErrOffice
		}
	}
	return api.OK
}

func cloneOffice(o api.Office) api.Office {
	o.Drive = cloneDrive(o.Drive)
	o.Memory.Register = cloneRegister(o.Memory.Register)
	for i, l := range o.Known {
		o.Known[i] = slices.Clone(l)
	}
	return o
}

// own is a record of a valid office's own, at the next place.
func own(o api.Office, r api.Record) api.Record {
	r.At = api.Place{Office: o.Me, Seq: Next(o.Memory.Register, o.Me)}
	return r
}

// written is a valid office that has written a record.
func written(o api.Office, r api.Record) (api.Office, api.Errno) {
	d, m, e := Append(o.Drive, o.Memory, r)
	if e != api.OK {
		return api.Office{}, e
	}
	o = cloneOffice(o)
	o.Drive, o.Memory = d, m
	return o, api.OK
}

// secured is a valid office that has written a record and made all firm.
func secured(o api.Office, r api.Record) (api.Office, api.Errno) {
	o, e := written(o, r)
	if e != api.OK {
		return api.Office{}, e
	}
	o.Drive = Sync(o.Drive)
	return o, api.OK
}

// NewOffice returns an office without records.
func NewOffice(me int) (api.Office, api.Errno) {
	if !isOffice(me) {
		return api.Office{}, api.ErrArg
	}
	d, m := New()
	return api.Office{Me: me, Drive: d, Memory: m}, api.OK
}

// Note writes a record of the office's own. A lease is given by Grant alone,
// which asks whether it may be.
func Note(o api.Office, r api.Record) (api.Office, api.Record, api.Errno) {
	if e := checkOffice(o); e != api.OK {
		return api.Office{}, api.Record{}, e
	}
	if r.Kind == api.RecLease {
		return api.Office{}, api.Record{}, api.ErrLease
	}
	r = own(o, r)
	o, e := written(o, r)
	if e != api.OK {
		return api.Office{}, api.Record{}, e
	}
	return o, r, api.OK
}

// checkGrant examines what is asked of Grant.
func checkGrant(o api.Office, ship, to, from, until int) api.Errno {
	if e := checkOffice(o); e != api.OK {
		return e
	}
	if !isShip(ship) || !isOffice(to) {
		return api.ErrArg
	}
	return checkDays(from, until)
}

// mayLease reports whether a lease is valid, and on each of its days no other
// one is held, as far as a valid office knows: the home alone knows of all.
func mayLease(o api.Office, lease api.Record) bool {
	return isRecord(lease) && !slices.ContainsFunc(leases(o.Memory.Register, lease.Ship), func(r api.Record) bool {
		return r.Day <= lease.Until && lease.Day <= r.Until
	})
}

// Grant gives a lease on a ship. It is firm when it is returned, so that the
// home never forgets it.
func Grant(o api.Office, ship, to, from, until int) (api.Office, api.Record, api.Errno) {
	if e := checkGrant(o, ship, to, from, until); e != api.OK {
		return api.Office{}, api.Record{}, e
	}
	// A lease of an office that is not the home is no valid record.
	lease := own(o, api.Record{Kind: api.RecLease, Ship: ship, To: to, Day: from, Until: until, Known: from})
	if !mayLease(o, lease) {
		return api.Office{}, api.Record{}, api.ErrLease
	}
	o, e := secured(o, lease)
	if e != api.OK {
		return api.Office{}, api.Record{}, e
	}
	return o, lease, api.OK
}
