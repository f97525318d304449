package register_test

import (
	"testing"

	"moorsom/api"
	"moorsom/register"
)

func TestStandsExample(t *testing.T) {
	g := registerOf(x(), y(), z())
	for n, want := range []bool{true, false, true} {
		if s, e := register.Stands(registerOf(g.Records[:n+1]...), place(1, 0)); s != want || e != api.OK {
			t.Error(n, s, e)
		}
	}
	for at, want := range map[api.Place]bool{place(1, 1): false, place(1, 2): true} {
		if s, e := register.Stands(g, at); s != want || e != api.OK {
			t.Error(at, s, e)
		}
	}
	for _, at := range []api.Place{{}, place(1, 3), place(0, 1), place(-1, 0), place(9, 0), place(1, -1), place(1, 10000)} {
		if s, e := register.Stands(g, at); s || e != api.ErrNone {
			t.Error(at, s, e)
		}
	}
	for known, want := range map[int][]api.Record{5: nil, 6: {x()}, 8: {x()}, 9: nil, 10: nil, 11: nil, 12: {x()}, 100000: {x()}} {
		if l, e := register.Standing(g, 10, known); e != api.OK || !same(l, want) {
			t.Error(known, l, e)
		}
	}
	if l, e := register.Standing(g, 11, 8); e != api.OK || len(l) != 0 {
		t.Error(l, e)
	}
}

// TestLeaseStands: a lease is not withdrawn, nor does it withdraw.
func TestLeaseStands(t *testing.T) {
	g := registerOf(happening(1, 0, 10, 1, "a"), lease(1, 10, 3, 1, 9), withdrawal(1, 2, 2, 1))
	for seq := range 3 {
		if s, e := register.Stands(g, place(1, seq)); !s || e != api.OK {
			t.Error(seq, s, e)
		}
	}
	if to, e := register.Holder(g, 10, 5); to != 3 || e != api.OK {
		t.Error(to, e)
	}
	if l, e := register.Standing(g, 10, 9); e != api.OK || !same(l, g.Records[:1]) {
		t.Error(l, e)
	}
}

// TestStandsOnLastDay: Stands asks for all that there is.
func TestStandsOnLastDay(t *testing.T) {
	g := registerOf(x(), told(100000, y()))
	if s, e := register.Stands(g, place(1, 0)); s || e != api.OK {
		t.Error(s, e)
	}
	if l, e := register.Standing(g, 10, 99999); e != api.OK || !same(l, []api.Record{x()}) {
		t.Error(l, e)
	}
	if l, e := register.Standing(g, 10, 100000); e != api.OK || len(l) != 0 {
		t.Error(l, e)
	}
}

// TestTwoWithdrawals: a record stands only when all of its withdrawals are
// withdrawn, and only those of its own office count.
func TestTwoWithdrawals(t *testing.T) {
	g := registerOf(happening(0, 0, 10, 1, "other"), withdrawal(0, 1, 1, 0), x(), y(), withdrawal(1, 2, 9, 0), withdrawal(1, 3, 10, 1))
	if s, e := register.Stands(g, place(1, 0)); s || e != api.OK {
		t.Error(s, e)
	}
	g.Records = append(g.Records, withdrawal(1, 4, 11, 2))
	if s, e := register.Stands(g, place(1, 0)); !s || e != api.OK {
		t.Error(s, e)
	}
	if l, e := register.Standing(g, 10, 10); e != api.OK || len(l) != 0 {
		t.Error(l, e)
	}
	if l, e := register.Standing(g, 10, 11); e != api.OK || !same(l, []api.Record{x()}) {
		t.Error(l, e)
	}
	// What is withdrawn need not be there.
	if s, e := register.Stands(registerOf(y()), place(1, 1)); !s || e != api.OK {
		t.Error(s, e)
	}
}

// TestStanding holds what stands against the chapter's words.
func TestStanding(t *testing.T) {
	withdrawn := 0
	registers(t, 41, 300, func(m maker, g api.Register) {
		for _, r := range g.Records {
			s, e := register.Stands(g, r.At)
			if want := stands(g, r, 100000); s != want || e != api.OK {
				t.Fatal(g, r, s, e)
			}
			if !s {
				withdrawn++
			}
		}
		for _, known := range []int{0, m.Intn(30), 30, 100000} {
			for ship := 9; ship < 19; ship++ {
				var want []api.Record
				for _, r := range g.Records {
					if r.Kind > 1 && r.Ship == ship && stands(g, r, known) {
						want = append(want, r)
					}
				}
				if l, e := register.Standing(g, ship, known); e != api.OK || !same(l, want) {
					t.Fatal(g, ship, known, l, e)
				}
			}
		}
	})
	if withdrawn < 300 {
		t.Error("too seldom", withdrawn)
	}
}

// TestAsKnown is P7.7: what is recorded with a later Known changes nothing
// that was known on a day ahead of it.
func TestAsKnown(t *testing.T) {
	registers(t, 42, 200, func(m maker, g api.Register) {
		known := m.Intn(30)
		var early api.Register
		for _, r := range g.Records {
			if r.Known <= known {
				early.Records = append(early.Records, r)
			}
		}
		for ship := 9; ship < 19; ship++ {
			a, e1 := register.Standing(g, ship, known)
			b, e2 := register.Standing(early, ship, known)
			c, e3 := register.Standing(early, ship, 100000)
			if max(e1, e2, e3) != api.OK || !same(a, b) || !same(a, c) {
				t.Fatal(g, ship, known, a, b, c)
			}
		}
	})
}

// TestWithdrawn is P7.7: a record that is withdrawn does not stand until its
// withdrawal is withdrawn, and so on.
func TestWithdrawn(t *testing.T) {
	g := registerOf(happening(2, 0, 10, 0, "first"))
	for seq := 1; seq < 80; seq++ {
		g.Records = append(g.Records, withdrawal(2, seq, seq, seq-1))
	}
	mustHold(t, register.Check(g))
	for known := range 80 {
		l, e := register.Standing(g, 10, known)
		if e != api.OK || (len(l) == 1) != (known%2 == 0) {
			t.Error(known, l, e)
		}
		s, e := register.Stands(registerOf(g.Records[:known+1]...), place(2, 0))
		if e != api.OK || s != (known%2 == 0) {
			t.Error(known, s, e)
		}
	}
}
