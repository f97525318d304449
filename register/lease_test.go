package register_test

import (
	"testing"

	"moorsom/api"
	"moorsom/register"
)

// leased is the register of the chapter's examples.
func leased() api.Register {
	return registerOf(lease(0, 10, 3, 100, 110), lease(1, 10, 4, 111, 120))
}

func TestHolder(t *testing.T) {
	for day, want := range map[int]int{100: 3, 110: 3, 111: 4, 120: 4} {
		if to, e := register.Holder(leased(), 10, day); to != want || e != api.OK {
			t.Error(day, to, e)
		}
	}
	for _, day := range []int{0, 99, 121, 100000} {
		if to, e := register.Holder(leased(), 10, day); to != 0 || e != api.ErrNone {
			t.Error(day, to, e)
		}
	}
	for _, ship := range []int{1, 19, 999} { // no lease is on them
		if to, e := register.Holder(leased(), ship, 105); to != 0 || e != api.ErrNone {
			t.Error(ship, to, e)
		}
	}
	// Of two the first one is meant, by their places.
	two := registerOf(lease(0, 10, 7, 50, 60), lease(1, 10, 2, 40, 70))
	for day, want := range map[int]int{40: 2, 49: 2, 50: 7, 60: 7, 61: 2, 70: 2} {
		if to, e := register.Holder(two, 10, day); to != want || e != api.OK {
			t.Error(day, to, e)
		}
	}
	// An event is no lease.
	if to, e := register.Holder(registerOf(happening(1, 0, 10, 5, "")), 10, 5); to != 0 || e != api.ErrNone {
		t.Error(to, e)
	}
}

func TestFree(t *testing.T) {
	gap := registerOf(lease(0, 10, 3, 100, 110), lease(1, 10, 4, 112, 120), lease(2, 10, 4, 20, 30))
	for _, c := range []struct {
		g        api.Register
		ship     int
		from, to int
		want     []api.Range
	}{
		{leased(), 10, 95, 125, []api.Range{{Lo: 95, Hi: 99}, {Lo: 121, Hi: 125}}},
		{leased(), 10, 100, 120, nil},
		{leased(), 10, 105, 105, nil},
		{leased(), 10, 99, 99, []api.Range{{Lo: 99, Hi: 99}}},
		{leased(), 10, 99, 121, []api.Range{{Lo: 99, Hi: 99}, {Lo: 121, Hi: 121}}},
		{leased(), 10, 0, 100000, []api.Range{{Lo: 0, Hi: 99}, {Lo: 121, Hi: 100000}}},
		{leased(), 10, 110, 121, []api.Range{{Lo: 121, Hi: 121}}},
		{leased(), 10, 0, 50, []api.Range{{Lo: 0, Hi: 50}}},
		{leased(), 10, 500, 600, []api.Range{{Lo: 500, Hi: 600}}},
		{leased(), 19, 0, 100000, []api.Range{{Lo: 0, Hi: 100000}}},
		{gap, 10, 0, 200, []api.Range{{Lo: 0, Hi: 19}, {Lo: 31, Hi: 99}, {Lo: 111, Hi: 111}, {Lo: 121, Hi: 200}}},
		{registerOf(lease(0, 10, 7, 40, 70), lease(1, 10, 2, 50, 60)), 10, 30, 80, []api.Range{{Lo: 30, Hi: 39}, {Lo: 71, Hi: 80}}},
		{registerOf(lease(0, 9, 7, 0, 5), lease(1, 9, 7, 99990, 100000)), 9, 0, 100000, []api.Range{{Lo: 6, Hi: 99989}}},
	} {
		if l, e := register.Free(c.g, c.ship, c.from, c.to); e != api.OK || !same(l, c.want) {
			t.Error(c, l, e)
		}
	}
	for _, c := range []struct {
		ship, from, to int
		want           api.Errno
	}{
		{10, 5, 4, api.ErrArg}, {10, 100000, 0, api.ErrArg}, {0, 5, 4, api.ErrArg}, {10, 100001, 4, api.ErrDay}, {10, 0, -1, api.ErrDay},
		{10, -1, 0, api.ErrDay}, {10, 0, 100001, api.ErrDay}, {1000, -1, 0, api.ErrArg},
	} {
		if l, e := register.Free(leased(), c.ship, c.from, c.to); e != c.want || len(l) != 0 {
			t.Error(c, l, e)
		}
	}
}

// TestLeases holds holders and free days against each day's leases.
func TestLeases(t *testing.T) {
	registers(t, 51, 150, func(m maker, g api.Register) {
		for ship := 9; ship < 18; ship++ {
			from, to := m.Intn(70), 0
			to = from + m.Intn(70)
			var want []api.Range
			for day := from; day <= to; day++ {
				l := held(g, ship, day)
				holder, e := register.Holder(g, ship, day)
				switch last := len(want) - 1; {
				case len(l) > 0:
					if holder != l[0].To || e != api.OK {
						t.Fatal(g, ship, day, holder, e)
					}
					continue
				case holder != 0 || e != api.ErrNone:
					t.Fatal(g, ship, day, holder, e)
				case last >= 0 && want[last].Hi == day-1:
					want[last].Hi = day
				default:
					want = append(want, api.Range{Lo: day, Hi: day})
				}
			}
			if l, e := register.Free(g, ship, from, to); e != api.OK || !same(l, want) {
				t.Fatal(g, ship, from, to, l, want, e)
			}
		}
	})
}
