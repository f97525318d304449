package register_test

import (
	"slices"
	"testing"

	"moorsom/api"
	"moorsom/register"
)

// A world has offices, what is under way between them, and what was told.
type world struct {
	maker
	t       *testing.T
	offices []api.Office
	wires   []api.Message
	acked   [9][]api.Record // whose acknowledgements an office has returned
	granted []api.Record
	// How often something happened.
	lost, doubled, restarts, refused int
}

func newWorld(t *testing.T, seed int64, offices int) *world {
	w := &world{maker: newMaker(seed, 40), t: t}
	for me := range offices {
		o, e := register.NewOffice(me)
		mustHold(t, e)
		w.offices = append(w.offices, o)
	}
	return w
}

func (w *world) isFull() bool {
	return slices.ContainsFunc(w.offices, func(o api.Office) bool { return len(o.Memory.Register.Records) == 80 })
}

// becomes puts an office behind what it did.
func (w *world) becomes(o api.Office) {
	w.t.Helper()
	w.offices[o.Me] = o
	for _, r := range w.acked[o.Me] {
		if !has(o.Memory.Register, r) {
			w.t.Fatal("acknowledged and lost", r, o)
		}
	}
	for _, r := range w.granted {
		if r.At.Office == o.Me && !has(o.Memory.Register, r) {
			w.t.Fatal("granted and lost", r, o)
		}
	}
}

func (w *world) note(o api.Office) {
	r := w.record(place(o.Me, register.Next(o.Memory.Register, o.Me)))
	if r.Kind == 1 {
		w.grant(o)
		return
	}
	full := len(o.Memory.Register.Records) == 80
	after, written, e := register.Note(o, r)
	switch {
	case full && e == api.ErrLong:
	case e == api.OK && written == r && has(after.Memory.Register, r) && !full:
		w.becomes(after)
	default:
		w.t.Fatal(o, r, written, e)
	}
}

// mayGrant says whether a lease may be given, from all that were.
func (w *world) mayGrant(o api.Office, ship, from, until int) bool {
	return ship%9 == o.Me && from <= until && until-from < 400 && !slices.ContainsFunc(w.granted, func(r api.Record) bool {
		return r.Ship == ship && r.Day <= until && from <= r.Until
	})
}

func (w *world) grant(o api.Office) {
	ship := []int{o.Me + 9, o.Me + 9, o.Me + 18, o.Me + 10}[w.Intn(4)]
	from := w.Intn(w.top)
	until := from - 1 + w.Intn(9)
	after, r, e := register.Grant(o, ship, w.Intn(9), from, max(until, 0))
	may := w.mayGrant(o, ship, from, max(until, 0))
	switch full := len(o.Memory.Register.Records) == 80; {
	case !may && e == api.ErrLease, may && full && e == api.ErrLong:
		w.refused++
	case e == api.OK && may && !full:
		w.granted = append(w.granted, r)
		w.becomes(after)
	default:
		w.t.Fatal(o, ship, from, until, r, e)
	}
}

func (w *world) offer(o api.Office) {
	to := w.Intn(len(w.offices))
	if to == o.Me {
		return
	}
	after, l, e := register.Offer(o, to)
	mustHold(w.t, e, o, to)
	w.becomes(after)
	w.wires = append(w.wires, l...)
}

// carry takes any message: it is received, lost, or both received and kept.
func (w *world) carry() {
	if len(w.wires) == 0 {
		return
	}
	i := w.Intn(len(w.wires))
	m := w.wires[i]
	if w.Intn(4) == 0 {
		w.doubled++
	} else {
		w.wires = slices.Delete(w.wires, i, i+1)
	}
	if w.Intn(5) == 0 {
		w.lost++
		return
	}
	w.wires = append(w.wires, w.receive(m)...)
}

func (w *world) receive(m api.Message) []api.Message {
	w.t.Helper()
	o := w.offices[m.To]
	after, answers, e := register.Receive(o, m)
	if e == api.ErrLong && len(o.Memory.Register.Records) == 80 {
		return nil
	}
	mustHold(w.t, e, o, m)
	for _, a := range answers {
		w.acked[m.To] = append(w.acked[m.To], a.Record)
	}
	w.becomes(after)
	return answers
}

func (w *world) restart(o api.Office) {
	after, e := register.Restart(o, [2]int{w.Intn(1000), w.Intn(1000)})
	mustHold(w.t, e, o)
	w.restarts++
	w.becomes(after)
}

// pack lets an office go on in the other file of its drive.
func (w *world) pack(o api.Office) {
	way, m, e := register.Pack(o.Drive, o.Memory)
	mustHold(w.t, e, o)
	o.Drive, o.Memory = way[3], m
	w.becomes(o)
}

// step does anything.
func (w *world) step() {
	o := w.offices[w.Intn(len(w.offices))]
	switch n := w.Intn(20); {
	case n < 2:
		w.note(o)
	case n < 4:
		w.grant(o)
	case n < 6:
		w.offer(o)
	case n < 7:
		w.restart(o)
	case n == 7 && w.Intn(3) == 0:
		w.pack(o)
	default:
		w.carry()
	}
}

// tellLeases asks whether in all registers together no two leases on a ship
// are held on one day, and no two offices are named.
func (w *world) tellLeases() {
	w.t.Helper()
	all := map[api.Record]bool{}
	for _, o := range w.offices {
		for _, r := range o.Memory.Register.Records {
			if r.Kind == 1 {
				all[r] = true
			}
		}
	}
	for a := range all {
		for b := range all {
			if a != b && a.Ship == b.Ship && a.Day <= b.Until && b.Day <= a.Until {
				w.t.Fatal("two leases", a, b)
			}
		}
		for _, o := range w.offices {
			if to, e := register.Holder(o.Memory.Register, a.Ship, a.Day); e != api.ErrNone && to != a.To {
				w.t.Fatal("two holders", a, to, o)
			}
		}
	}
}

// settle lets all offices receive all that each other one offers.
func (w *world) settle() {
	w.t.Helper()
	for range 2 {
		for from := range w.offices {
			for to := range w.offices {
				if from == to {
					continue
				}
				after, l, e := register.Offer(w.offices[from], to)
				mustHold(w.t, e)
				w.becomes(after)
				for _, m := range l {
					w.receive(m)
				}
			}
		}
	}
}

// TestOffices is P7.5 and P7.6.
func TestOffices(t *testing.T) {
	lost, doubled, restarts, refused, settled := 0, 0, 0, 0, 0
	for seed := range int64(60) {
		w := newWorld(t, 700+seed, 2+int(seed)%8)
		for range 50 + 15*(int(seed)%10) {
			w.step()
			w.tellLeases()
		}
		w.settle()
		w.tellLeases()
		if !w.isFull() {
			settled++
			for _, o := range w.offices {
				if !slices.Equal(o.Memory.Register.Records, w.offices[0].Memory.Register.Records) {
					t.Fatal(seed, o, w.offices[0])
				}
			}
		}
		lost, doubled, restarts, refused = lost+w.lost, doubled+w.doubled, restarts+w.restarts, refused+w.refused
	}
	if lost < 100 || doubled < 100 || restarts < 100 || refused < 100 || settled < 40 {
		t.Error("too seldom", lost, doubled, restarts, refused, settled)
	}
}

// TestLostAhead: what was noted and lost was sent to no one, so that another
// record may have its place.
func TestLostAhead(t *testing.T) {
	a, b := officeOf(0), officeOf(1)
	first, r, e := register.Note(a, happening(0, 0, 5, 1, "first"))
	mustHold(t, e)
	a, e = register.Restart(first, [2]int{})
	mustHold(t, e)
	a, s, e := register.Note(a, happening(0, 0, 5, 1, "second"))
	if e != api.OK || s.At != r.At {
		t.Error(r, s, e)
	}
	a, l, e := register.Offer(a, 1)
	mustHold(t, e)
	b, _, e = register.Receive(b, l[0])
	mustHold(t, e)
	// What was offered stays where it is, whatever a failure of the power leaves.
	a, e = register.Restart(a, [2]int{})
	if e != api.OK || !same(a.Memory.Register, registerOf(s)) || !same(b.Memory.Register, registerOf(s)) {
		t.Error(a, b, e)
	}
}

// TestAcknowledged: messages are offered until they are acknowledged, and
// anew when this is forgotten.
func TestAcknowledged(t *testing.T) {
	a, b := officeOf(0), officeOf(1)
	a, r, e := register.Note(a, happening(0, 0, 5, 1, "build"))
	mustHold(t, e)
	many := func(from api.Office, to int) int {
		_, l, e := register.Offer(from, to)
		mustHold(t, e)
		return len(l)
	}
	if n, m := many(a, 1), many(a, 2); n != 1 || m != 1 {
		t.Error(n, m)
	}
	b, answers, e := register.Receive(b, api.Message{From: 0, To: 1, Record: r})
	mustHold(t, e)
	if n, m := many(b, 0), many(b, 2); n != 0 || m != 1 {
		t.Error("what came from an office is not offered to it", n, m)
	}
	a, more, e := register.Receive(a, answers[0])
	if n, m := many(a, 1), many(a, 2); e != api.OK || len(more) != 0 || n != 0 || m != 1 {
		t.Error(n, m, more, e)
	}
	a, _, e = register.Offer(a, 1)
	mustHold(t, e)
	a, e = register.Restart(a, [2]int{})
	if n := many(a, 1); e != api.OK || n != 1 {
		t.Error(n, e)
	}
}
