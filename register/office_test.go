package register_test

import (
	"math"
	"slices"
	"testing"

	"moorsom/api"
	"moorsom/register"
)

func TestNewOffice(t *testing.T) {
	for me := range 9 {
		o, e := register.NewOffice(me)
		if e != api.OK || !same(o, officeOf(me)) {
			t.Error(me, o, e)
		}
	}
	for _, me := range []int{-1, 9, math.MaxInt, math.MinInt} {
		if o, e := register.NewOffice(me); e != api.ErrArg || !same(o, api.Office{}) {
			t.Error(me, o, e)
		}
	}
}

// invalidOffices are such.
func invalidOffices() []api.Office {
	var l []api.Office
	for _, c := range mismatches() {
		l = append(l, api.Office{Me: 1, Drive: c.d, Memory: c.m})
	}
	for _, me := range []int{-1, 9, math.MaxInt, math.MinInt} {
		o := officeOf(1, x(), y())
		o.Me = me
		l = append(l, o)
	}
	for _, known := range [][]api.Place{{place(-1, 0)}, {place(9, 0)}, {place(0, -1)}, {place(0, 10000)}, {place(1, 0), place(1, 0)}, {place(1, 1), place(1, 0)}, {place(2, 0), place(1, 5)}, {place(0, 0), place(9, 0)}} {
		for _, other := range []int{0, 1, 8} {
			o := officeOf(1, x(), y())
			o.Known[other] = known
			l = append(l, o)
		}
	}
	return l
}

// others has what an office may know of others, also of records that it has not.
func others(o api.Office) api.Office {
	o.Known[0] = []api.Place{place(0, 0), place(0, 9999), place(1, 0), place(8, 3)}
	o.Known[8] = []api.Place{place(1, 1)}
	o.Known[o.Me] = []api.Place{place(5, 5)}
	return o
}

func TestNote(t *testing.T) {
	o := others(officeOf(1, happening(0, 7, 10, 1, "a"), happening(1, 4, 10, 1, "b")))
	r := happening(3, 33, 20, 2, "c") // its place plays no part
	noted, written, e := register.Note(o, r)
	r.At = place(1, 5)
	want := others(officeOf(1, happening(0, 7, 10, 1, "a"), happening(1, 4, 10, 1, "b"), r))
	want.Drive.Files[0].Firm = len(o.Drive.Files[0].Bytes)
	if e != api.OK || written != r || !same(noted, want) {
		t.Error(noted, written, e)
	}
	w, _, e := register.Note(noted, api.Record{At: place(-5, 99999), Known: 3, Of: place(1, 5)})
	if e != api.OK || len(w.Memory.Register.Records) != 4 {
		t.Error(w, e)
	}
	if s, e := register.Stands(w.Memory.Register, place(1, 5)); s || e != api.OK {
		t.Error(s, e)
	}
	if first, written, e := register.Note(officeOf(1, happening(0, 7, 10, 1, "a")), r); e != api.OK || written.At != place(1, 0) || len(first.Memory.Register.Records) != 2 {
		t.Error(first, written, e)
	}
}

func TestNoteErrors(t *testing.T) {
	o := officeOf(1, x(), y())
	full := officeOf(1, many(80, 0, 0).Records...)
	last := officeOf(1, happening(1, 9999, 1, 1, ""))
	for i, c := range []struct {
		o    api.Office
		r    api.Record
		want api.Errno
	}{
		{o, lease(0, 10, 1, 1, 9), api.ErrLease}, {o, api.Record{Kind: 1}, api.ErrLease}, {full, lease(0, 10, 1, 1, 9), api.ErrLease},
		{o, api.Record{}, api.ErrRecord}, {o, api.Record{Kind: 2}, api.ErrRecord}, {o, withdrawal(1, 5, 1, 2), api.ErrRecord}, {o, withdrawal(0, 5, 1, 0), api.ErrRecord},
		{o, happening(0, 0, 1000, 1, ""), api.ErrRecord}, {o, happening(0, 0, 1, 100001, ""), api.ErrRecord}, {full, api.Record{}, api.ErrRecord},
		{full, happening(0, 0, 1, 1, ""), api.ErrLong}, {last, happening(0, 0, 1, 1, ""), api.ErrRecord},
	} {
		if o, r, e := register.Note(c.o, c.r); e != c.want || !same(o, api.Office{}) || r != (api.Record{}) {
			t.Error(i, o, r, e)
		}
	}
}

func TestGrantExample(t *testing.T) {
	o, e := register.NewOffice(1)
	mustHold(t, e)
	o, r, e := register.Grant(o, 10, 3, 100, 110)
	if e != api.OK || r != lease(0, 10, 3, 100, 110) || !same(o, officeOf(1, r)) {
		t.Error(o, r, e)
	}
	if o, r, e := register.Grant(o, 10, 4, 110, 120); e != api.ErrLease || !same(o, api.Office{}) || r != (api.Record{}) {
		t.Error(o, r, e)
	}
	o, r, e = register.Grant(o, 10, 4, 111, 120)
	if e != api.OK || !same(o.Memory.Register, leased()) {
		t.Error(o, r, e)
	}
	if o, r, e := register.Grant(officeOf(2), 10, 4, 111, 120); e != api.ErrLease || !same(o, api.Office{}) || r != (api.Record{}) {
		t.Error(o, r, e)
	}
}

func TestGrant(t *testing.T) {
	o := others(officeOf(1, lease(0, 10, 3, 100, 110), lease(1, 19, 3, 0, 300), happening(1, 2, 10, 50, "")))
	full := officeOf(1, append([]api.Record{lease(0, 10, 3, 100, 110)}, many(79, 2, 0).Records...)...)
	last := officeOf(1, happening(1, 9999, 1, 1, ""))
	for i, c := range []struct {
		o                     api.Office
		ship, to, from, until int
		want                  api.Errno
	}{
		{o, 10, 3, 99, 99, api.OK}, {o, 10, 3, 99, 100, api.ErrLease}, {o, 10, 3, 90, 200, api.ErrLease}, {o, 10, 3, 105, 106, api.ErrLease},
		{o, 10, 3, 110, 111, api.ErrLease}, {o, 10, 3, 111, 111, api.OK}, {o, 10, 3, 0, 99, api.OK}, {o, 28, 8, 100, 110, api.OK}, {o, 10, 1, 50, 50, api.OK},
		{o, 10, 0, 200, 599, api.OK}, {o, 10, 0, 200, 600, api.ErrLease}, {o, 10, 0, 200, 199, api.ErrLease}, {o, 10, 0, 99999, 100000, api.OK},
		{o, 11, 0, 200, 201, api.ErrLease}, {o, 9, 0, 200, 201, api.ErrLease},
		{o, 0, 0, 1, 2, api.ErrArg}, {o, 1000, 0, 1, 2, api.ErrArg}, {o, 10, -1, 1, 2, api.ErrArg}, {o, 10, 9, 1, 2, api.ErrArg}, {o, 11, 9, 1, 2, api.ErrArg},
		{o, 10, 9, -1, 2, api.ErrArg}, {o, 10, 0, -1, 2, api.ErrDay}, {o, 10, 0, 100001, 2, api.ErrDay}, {o, 10, 0, 1, -1, api.ErrDay}, {o, 10, 0, 99990, 100001, api.ErrDay},
		{o, 11, 0, 1, 100001, api.ErrDay}, {full, 10, 0, 1, 2, api.ErrLong}, {full, 10, 0, 100, 100, api.ErrLease}, {last, 10, 0, 1, 2, api.ErrLease},
	} {
		granted, r, e := register.Grant(c.o, c.ship, c.to, c.from, c.until)
		if e != c.want || e != api.OK && (!same(granted, api.Office{}) || r != (api.Record{})) {
			t.Error(i, granted, r, e)
		}
		if e != api.OK {
			continue
		}
		want := others(officeOf(1, append(slices.Clone(c.o.Memory.Register.Records), lease(3, c.ship, c.to, c.from, c.until))...))
		if r != lease(3, c.ship, c.to, c.from, c.until) || !same(granted, want) {
			t.Error(i, granted, r)
		}
	}
}

// TestGrantIsFirm: what was noted ahead of a lease is firm with it.
func TestGrantIsFirm(t *testing.T) {
	o, _, e := register.Note(officeOf(1), happening(0, 0, 10, 5, "build"))
	mustHold(t, e)
	o, r, e := register.Grant(o, 10, 3, 100, 110)
	mustHold(t, e)
	o, e = register.Restart(o, [2]int{})
	if e != api.OK || !same(o.Memory.Register, registerOf(happening(1, 0, 10, 5, "build"), r)) {
		t.Error(o, e)
	}
}

func TestOffer(t *testing.T) {
	records := []api.Record{happening(0, 0, 10, 1, "a"), happening(0, 1, 10, 1, "b"), x(), y(), happening(8, 3, 10, 1, "c")}
	o := others(officeOf(1, records...))
	o.Drive.Files[0].Firm = 10
	synced := others(officeOf(1, records...))
	for to, want := range map[int][]api.Record{0: {records[1], records[3]}, 8: {records[0], records[1], records[2], records[4]}, 5: records} {
		var messages []api.Message
		for _, r := range want {
			messages = append(messages, api.Message{From: 1, To: to, Record: r})
		}
		after, l, e := register.Offer(o, to)
		if e != api.OK || !same(l, messages) || !same(after, synced) {
			t.Error(to, after, l, e)
		}
	}
	for _, to := range []int{1, -1, 9, math.MaxInt, math.MinInt} {
		if after, l, e := register.Offer(o, to); e != api.ErrArg || !same(after, api.Office{}) || len(l) != 0 {
			t.Error(to, after, l, e)
		}
	}
	if after, l, e := register.Offer(officeOf(1), 0); e != api.OK || len(l) != 0 || !same(after, officeOf(1)) {
		t.Error(after, l, e)
	}
}

func TestReceive(t *testing.T) {
	o := others(officeOf(1, x()))
	r := happening(3, 4, 10, 1, "a")
	want := others(officeOf(1, x(), r))
	want.Known[2] = []api.Place{place(3, 4)}
	answer := []api.Message{{From: 1, To: 2, Ack: true, Record: r}}
	after, l, e := register.Receive(o, api.Message{From: 2, To: 1, Record: r})
	if e != api.OK || !same(after, want) || !same(l, answer) {
		t.Error(after, l, e)
	}
	again, l, e := register.Receive(after, api.Message{From: 2, To: 1, Record: r})
	if e != api.OK || !same(again, want) || !same(l, answer) {
		t.Error(again, l, e)
	}
	// The place stands in its order among those that the sender has.
	after, _, e = register.Receive(o, api.Message{From: 0, To: 1, Record: r})
	if e != api.OK || !slices.Equal(after.Known[0], []api.Place{place(0, 0), place(0, 9999), place(1, 0), place(3, 4), place(8, 3)}) {
		t.Error(after, e)
	}
	// A record of its own may come back; what was not firm then is.
	loose := others(officeOf(1, x()))
	loose.Drive.Files[0].Firm = 10
	want = others(officeOf(1, x()))
	want.Known[4] = []api.Place{place(1, 0)}
	after, l, e = register.Receive(loose, api.Message{From: 4, To: 1, Record: x()})
	if e != api.OK || !same(after, want) || !same(l, []api.Message{{From: 1, To: 4, Ack: true, Record: x()}}) {
		t.Error(after, l, e)
	}
}

func TestReceiveAck(t *testing.T) {
	o := others(officeOf(1, x(), y(), happening(8, 3, 10, 1, "")))
	o.Drive.Files[0].Firm = 10
	ack := func(from int, at api.Place) api.Message {
		return api.Message{From: from, To: 1, Ack: true, Record: api.Record{At: at, Kind: -3}} // the place alone counts
	}
	for _, c := range []struct {
		from  int
		at    api.Place
		known []api.Place
	}{
		{2, place(1, 0), []api.Place{place(1, 0)}}, {8, place(1, 0), []api.Place{place(1, 0), place(1, 1)}}, {8, place(1, 1), []api.Place{place(1, 1)}},
		{8, place(8, 3), []api.Place{place(1, 1), place(8, 3)}}, {0, place(1, 1), []api.Place{place(0, 0), place(0, 9999), place(1, 0), place(1, 1), place(8, 3)}},
	} {
		want := others(officeOf(1, x(), y(), happening(8, 3, 10, 1, "")))
		want.Drive.Files[0].Firm = 10
		want.Known[c.from] = c.known
		after, l, e := register.Receive(o, ack(c.from, c.at))
		if e != api.OK || len(l) != 0 || !same(after, want) {
			t.Error(c, after, l, e)
		}
	}
	for _, at := range []api.Place{{}, place(1, 2), place(-1, 0), place(9, 0), place(8, 2)} {
		if after, l, e := register.Receive(o, ack(2, at)); e != api.ErrNone || len(l) != 0 || !same(after, api.Office{}) {
			t.Error(at, after, l, e)
		}
	}
}

func TestReceiveErrors(t *testing.T) {
	o, full := officeOf(1, x()), officeOf(1, many(80, 0, 0).Records...)
	message := func(from, to int, r api.Record) api.Message { return api.Message{From: from, To: to, Record: r} }
	for i, c := range []struct {
		o    api.Office
		m    api.Message
		want api.Errno
	}{
		{o, message(2, 0, y()), api.ErrArg}, {o, message(1, 2, y()), api.ErrArg}, {o, message(1, 1, y()), api.ErrArg}, {o, message(-1, 1, y()), api.ErrArg},
		{o, message(9, 1, y()), api.ErrArg}, {o, message(2, -1, y()), api.ErrArg}, {o, message(9, 1, api.Record{}), api.ErrArg},
		{o, api.Message{From: 9, To: 1, Ack: true, Record: x()}, api.ErrArg}, {o, api.Message{From: 2, To: 0, Ack: true}, api.ErrArg},
		{o, message(2, 1, api.Record{}), api.ErrRecord}, {o, message(2, 1, told(100001, x())), api.ErrRecord}, {full, message(2, 1, api.Record{}), api.ErrRecord},
		{o, message(2, 1, told(7, x())), api.ErrTwo}, {full, message(2, 1, x()), api.ErrLong}, {full, message(2, 1, told(99, many(1, 0, 0).Records[0])), api.ErrTwo},
	} {
		if after, l, e := register.Receive(c.o, c.m); e != c.want || len(l) != 0 || !same(after, api.Office{}) {
			t.Error(i, after, l, e)
		}
	}
	// A full register acknowledges what it has.
	if after, l, e := register.Receive(full, message(2, 1, many(1, 0, 0).Records[0])); e != api.OK || len(l) != 1 || len(after.Known[2]) != 1 {
		t.Error(after, l, e)
	}
}

func TestRestart(t *testing.T) {
	o := others(officeOf(1, x(), y()))
	o.Drive.Files[0].Firm = 39
	for kept, want := range map[int]api.Office{0: officeOf(1, x()), 23: officeOf(1, x()), 24: officeOf(1, x(), y()), 25: officeOf(1, x()), -1: officeOf(1, x(), y())} {
		after, e := register.Restart(o, [2]int{kept, 5})
		if e != api.OK || !same(after, want) {
			t.Error(kept, after, e)
		}
	}
	// It goes on in the file 1, and with its generation.
	packed := api.Office{Me: 8, Drive: firm(nil, fileOf(5, 1, x())), Memory: memoryOf(1, 5, x())}
	if after, e := register.Restart(others(packed), [2]int{5, 9}); e != api.OK || !same(after, packed) {
		t.Error(after, e)
	}
	// The head, or frames that are counted, may be lost.
	for firmBytes, want := range map[int]api.Errno{0: api.ErrFile, 9: api.ErrFile, 10: api.OK} {
		o := officeOf(1, x())
		o.Drive.Files[0].Firm = firmBytes
		after, e := register.Restart(o, [2]int{})
		if e != want || e != api.OK && !same(after, api.Office{}) || e == api.OK && !same(after, officeOf(1)) {
			t.Error(firmBytes, after, e)
		}
	}
	counted := api.Office{Me: 1, Drive: driveOf(fileOf(1, 1, x()), 38, nil, 0), Memory: memoryOf(0, 1, x())}
	if after, e := register.Restart(counted, [2]int{}); e != api.ErrFile || !same(after, api.Office{}) {
		t.Error(after, e)
	}
}

// TestInvalidOffices: all functions refuse them, whatever else is wrong.
func TestInvalidOffices(t *testing.T) {
	for i, o := range invalidOffices() {
		a, r, e1 := register.Note(o, api.Record{Kind: 1})
		b, s, e2 := register.Grant(o, 0, 9, -1, 0)
		c, l, e3 := register.Offer(o, 9)
		d, n, e4 := register.Receive(o, api.Message{From: -1})
		f, e5 := register.Restart(o, [2]int{})
		for _, e := range []api.Errno{e1, e2, e3, e4, e5} {
			if e != api.ErrOffice {
				t.Error(i, e)
			}
		}
		if !same([]api.Office{a, b, c, d, f}, make([]api.Office, 5)) || r != (api.Record{}) || s != (api.Record{}) || len(l)+len(n) != 0 {
			t.Error(i)
		}
	}
}
