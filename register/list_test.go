package register_test

import (
	"slices"
	"testing"

	"moorsom/api"
	"moorsom/register"
)

func TestAdd(t *testing.T) {
	first, last := happening(0, 9999, 1, 1, ""), happening(8, 0, 1, 1, "")
	for _, c := range []struct {
		g    api.Register
		r    api.Record
		want api.Register
	}{
		{registerOf(), x(), registerOf(x())},
		{registerOf(x()), x(), registerOf(x())},
		{registerOf(x()), y(), registerOf(x(), y())},
		{registerOf(y()), x(), registerOf(x(), y())},
		{registerOf(x()), first, registerOf(first, x())},
		{registerOf(first, x()), last, registerOf(first, x(), last)},
		{registerOf(x(), z()), y(), registerOf(x(), y(), z())},
	} {
		if g, e := register.Add(c.g, c.r); e != api.OK || !same(g, c.want) {
			t.Error(c, g, e)
		}
	}
}

// TestAddOther: each difference makes another record.
func TestAddOther(t *testing.T) {
	for _, other := range []api.Record{told(7, x()), happening(1, 0, 10, 5, "build"), told(6, happening(1, 0, 10, 5, "built")), told(6, happening(1, 0, 11, 5, "build")), lease(0, 10, 1, 5, 6)} {
		mustHold(t, register.CheckRecord(other))
		if g, e := register.Add(registerOf(x(), y()), other); e != api.ErrTwo || len(g.Records) != 0 {
			t.Error(other, g, e)
		}
	}
}

// TestFull: a full register takes what it has.
func TestFull(t *testing.T) {
	g, e := register.Add(many(79, 0, 0), x())
	if e != api.OK || len(g.Records) != 80 {
		t.Error(g, e)
	}
	if again, e := register.Add(g, x()); e != api.OK || !same(again, g) {
		t.Error(again, e)
	}
	if more, e := register.Add(g, y()); e != api.ErrLong || len(more.Records) != 0 {
		t.Error(more, e)
	}
	if two, e := register.Add(g, told(7, x())); e != api.ErrTwo || len(two.Records) != 0 {
		t.Error(two, e)
	}
	// 50 and 30 are 80, 50 and 31 are one more, and so are not if they have some in common.
	for _, c := range []struct {
		b    api.Register
		want api.Errno
	}{{many(30, 0, 50), api.OK}, {many(31, 0, 50), api.ErrLong}, {many(31, 1, 0), api.ErrLong}, {many(30, 1, 0), api.OK}} {
		if g, e := register.Join(many(50, 0, 0), c.b); e != c.want || e == api.OK && len(g.Records) != 80 {
			t.Error(c, g, e)
		}
	}
	a := many(60, 0, 0)
	for i, r := range a.Records { // their days tell where they stand
		r.At.Seq += 40
		a.Records[i] = r
	}
	if g, e := register.Join(a, registerOf(a.Records[10:]...)); e != api.OK || !same(g, a) {
		t.Error(g, e)
	}
	// Two records of one place are told ahead of a register that is too long.
	b := registerOf(append(many(50, 1, 0).Records, happening(2, 0, 1, 1, ""))...)
	long := registerOf(append(many(50, 0, 0).Records, happening(2, 0, 1, 2, ""))...)
	if g, e := register.Join(long, b); e != api.ErrTwo || len(g.Records) != 0 {
		t.Error(g, e)
	}
}

// TestJoined is P7.3: Join is commutative, associative and idempotent, and Add
// is Join with one record.
func TestJoined(t *testing.T) {
	registers(t, 31, 400, func(m maker, whole api.Register) {
		a, b, c := m.some(whole), m.some(whole), m.some(whole)
		if len(whole.Records) > 0 && m.Intn(3) == 0 && len(b.Records) > 0 { // two of one place
			i := m.Intn(len(b.Records))
			b.Records[i].Known++
		}
		ab, e1 := register.Join(a, b)
		ba, e2 := register.Join(b, a)
		if e1 != e2 || !same(ab, ba) {
			t.Fatal(a, b, e1, e2)
		}
		if want := union(a, b); e1 == api.OK && !same(ab, want) || e1 != api.OK && want.Records != nil {
			t.Fatal(a, b, ab, want)
		}
		bc, e3 := register.Join(b, c)
		if e1 == api.OK && e3 == api.OK {
			left, e4 := register.Join(ab, c)
			right, e5 := register.Join(a, bc)
			if e4 != e5 || !same(left, right) {
				t.Fatal(a, b, c, e4, e5)
			}
		}
		if aa, e := register.Join(a, a); e != api.OK || !same(aa, a) {
			t.Fatal(a, aa, e)
		}
		for _, r := range b.Records {
			added, e1 := register.Add(a, r)
			joined, e2 := register.Join(a, registerOf(r))
			if e1 != e2 || !same(added, joined) {
				t.Fatal(a, r, e1, e2)
			}
		}
	})
}

// union is both registers in order; nil if they have two records of one place.
func union(a, b api.Register) api.Register {
	all := slices.Clone(a.Records)
	for _, r := range b.Records {
		if !has(a, r) {
			all = append(all, r)
		}
	}
	all = inOrder(all)
	for i := range all {
		if i > 0 && all[i-1].At == all[i].At {
			return api.Register{}
		}
	}
	return registerOf(all...)
}

// TestOrderPlaysNoPart is P7.3: what is told follows from the records alone,
// whatever the order in which they were added.
func TestOrderPlaysNoPart(t *testing.T) {
	registers(t, 32, 60, func(m maker, g api.Register) {
		var other api.Register
		for _, r := range m.shuffled(g.Records) {
			var e api.Errno
			other, e = register.Add(other, r)
			mustHold(t, e)
		}
		if !same(g, other) {
			t.Fatal(g, other)
		}
	})
}
