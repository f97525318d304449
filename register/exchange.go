package register

import (
	"slices"

	"moorsom/api"
)

// learn tells an office, which shares no memory with an argument, that another
// one has the record of a place.
func learn(o *api.Office, other int, at api.Place) {
	l := &o.Known[other]
	if i, found := slices.BinarySearchFunc(*l, at, byPlace); !found {
		*l = slices.Insert(*l, i, at)
	}
}

// Offer returns what another office is not known to have. What is sent is
// firm, so that its place never gets another record.
func Offer(o api.Office, to int) (api.Office, []api.Message, api.Errno) {
	if e := checkOffice(o); e != api.OK {
		return api.Office{}, nil, e
	}
	if !isOffice(to) || to == o.Me {
		return api.Office{}, nil, api.ErrArg
	}
	o = cloneOffice(o)
	o.Drive = Sync(o.Drive)
	var messages []api.Message
	for _, r := range o.Memory.Register.Records {
		if _, known := slices.BinarySearchFunc(o.Known[to], r.At, byPlace); !known {
			messages = append(messages, api.Message{From: o.Me, To: to, Record: r})
		}
	}
	return o, messages, api.OK
}

// Receive takes a message, and returns the answers.
func Receive(o api.Office, m api.Message) (api.Office, []api.Message, api.Errno) {
	if e := checkOffice(o); e != api.OK {
		return api.Office{}, nil, e
	}
	if m.To != o.Me || !isOffice(m.From) || m.From == o.Me {
		return api.Office{}, nil, api.ErrArg
	}
	if m.Ack {
		return acknowledged(o, m)
	}
	// What is acknowledged is firm ahead of it: the sender never sends it again.
	o, e := secured(o, m.Record)
	if e != api.OK {
		return api.Office{}, nil, e
	}
	learn(&o, m.From, m.Record.At)
	return o, []api.Message{{From: o.Me, To: m.From, Ack: true, Record: m.Record}}, api.OK
}

// acknowledged is a valid office that is told that another one has a record.
func acknowledged(o api.Office, m api.Message) (api.Office, []api.Message, api.Errno) {
	if _, found := find(o.Memory.Register, m.Record.At); !found {
		return api.Office{}, nil, api.ErrNone
	}
	o = cloneOffice(o)
	learn(&o, m.From, m.Record.At)
	return o, nil, api.OK
}

// Restart is an office behind a failure of the power. What others have is
// forgotten, and so is told anew.
func Restart(o api.Office, kept [2]int) (api.Office, api.Errno) {
	if e := checkOffice(o); e != api.OK {
		return api.Office{}, e
	}
	d, m, e := Open(Crash(o.Drive, kept))
	if e != api.OK {
		return api.Office{}, e
	}
	return api.Office{Me: o.Me, Drive: d, Memory: m}, api.OK
}
