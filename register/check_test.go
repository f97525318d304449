package register_test

import (
	"math"
	"slices"
	"strings"
	"testing"

	"moorsom/api"
	"moorsom/register"
)

// plain is a valid record of each sort: a withdrawal, a lease, and events of
// the first and the last kind. Their places are not the first ones.
func plain() []api.Record {
	last := told(0, happening(3, 7, 999, 30, ""))
	last.Kind = 29
	return []api.Record{withdrawal(3, 7, 9, 6), lease(7, 12, 5, 100, 110), happening(3, 7, 10, 5, "build"), last}
}

// A part is a number of a record.
type part struct {
	name string
	set  func(r *api.Record, n int)
	// in and out has numbers that it may and may not be, by the index of a
	// plain record: all others have to be 0.
	in, out map[int][]int
}

// all has the same for all these records.
func all(l []int, records ...int) map[int][]int {
	m := map[int][]int{}
	for _, i := range records {
		m[i] = l
	}
	return m
}

func far() []int { return []int{math.MaxInt, math.MinInt} }

func outside(l ...int) []int { return append(far(), l...) }

// common are the numbers that all records have.
func common() []part {
	return []part{
		{"At.Office", func(r *api.Record, n int) { r.At.Office = n },
			map[int][]int{0: {3}, 1: {3}, 2: {0, 8}, 3: {0, 8}},
			map[int][]int{0: {-1, 2, 4, 9}, 1: outside(-1, 0, 2, 4, 9, 12), 2: outside(-1, 9), 3: outside(-1, 9)}},
		{"At.Seq", func(r *api.Record, n int) { r.At.Seq = n },
			map[int][]int{0: {7, 9999}, 1: {0, 9999}, 2: {0, 9999}, 3: {0, 9999}},
			map[int][]int{0: outside(-1, 0, 6, 10000), 1: outside(-1, 10000), 2: outside(-1, 10000), 3: outside(-1, 10000)}},
		{"Kind", func(r *api.Record, n int) { r.Kind = n },
			map[int][]int{0: {0}, 1: {1}, 2: {2, 3, 4, 28, 29}, 3: {2, 29}},
			all(outside(-1, 30), 0, 1, 2, 3)},
		{"Known", func(r *api.Record, n int) { r.Known = n }, all([]int{0, 100000}, 0, 1, 2, 3), all(outside(-1, 100001), 0, 1, 2, 3)},
	}
}

// named are the numbers that only some records have.
func named() []part {
	return []part{
		{"Ship", func(r *api.Record, n int) { r.Ship = n },
			map[int][]int{1: {3, 12, 993}, 2: {1, 999}, 3: {1, 999}},
			map[int][]int{1: outside(-1, 0, 9, 11, 13, 1002), 2: outside(-1, 0, 1000), 3: outside(-1, 0, 1000)}},
		{"Day", func(r *api.Record, n int) { r.Day = n },
			map[int][]int{1: {0, 99, 110}, 2: {0, 100000}, 3: {0, 100000}},
			map[int][]int{1: outside(-1, 111, 100001), 2: outside(-1, 100001), 3: outside(-1, 100001)}},
		{"Until", func(r *api.Record, n int) { r.Until = n }, all([]int{100, 499}, 1), all(outside(-1, 0, 99, 500, 100000), 1)},
		{"To", func(r *api.Record, n int) { r.To = n }, all([]int{0, 3, 8}, 1), all(outside(-1, 9), 1)},
		{"Of.Office", func(r *api.Record, n int) { r.Of.Office = n }, nil, all(outside(-1, 0, 2, 4, 9), 0)},
		{"Of.Seq", func(r *api.Record, n int) { r.Of.Seq = n }, all([]int{0, 6}, 0), all(outside(-1, 7, 8, 10000), 0)},
		{"Text", func(r *api.Record, n int) { r.Text = strings.Repeat("x", n&0xffff) }, all([]int{0, 1, 200}, 2, 3), all([]int{201, 256, 65535}, 2, 3)},
	}
}

func TestCheckRecord(t *testing.T) {
	check := func(r api.Record, want api.Errno, what ...any) {
		t.Helper()
		if e := register.CheckRecord(r); e != want {
			t.Error(append(what, r, e)...)
		}
	}
	for i, r := range plain() {
		check(r, api.OK)
		for _, p := range append(common(), named()...) {
			out := p.out[i]
			if p.in[i] == nil && out == nil { // nothing but zero
				out = []int{1, 3, -1}
			}
			for _, n := range p.in[i] {
				changed := r
				p.set(&changed, n)
				check(changed, api.OK, p.name, n)
			}
			for _, n := range out {
				changed := r
				p.set(&changed, n)
				check(changed, api.ErrRecord, p.name, n)
			}
		}
	}
}

// TestOfZero: what is not named is zero, whatever else the record could be.
func TestOfZero(t *testing.T) {
	for _, i := range []int{1, 2, 3} {
		r := plain()[i]
		r.Of = place(3, 6)
		if e := register.CheckRecord(r); e != api.ErrRecord {
			t.Error(r, e)
		}
	}
	// A place that looks empty is one all the same.
	if e := register.CheckRecord(withdrawal(0, 1, 0, 0)); e != api.OK {
		t.Error(e)
	}
}

func TestTexts(t *testing.T) {
	for b := range 256 {
		want := api.ErrRecord
		if b >= 0x20 && b <= 0x7e {
			want = api.OK
		}
		for _, words := range []string{string([]byte{byte(b)}), string([]byte{'a', byte(b)}), strings.Repeat("a", 199) + string([]byte{byte(b)})} {
			if e := register.CheckRecord(happening(0, 0, 1, 1, words)); e != want {
				t.Error(b, words, e)
			}
		}
	}
}

// TestLeaseBounds: the last days, and the lengths of leases.
func TestLeaseBounds(t *testing.T) {
	for _, c := range []struct {
		day, until int
		want       api.Errno
	}{
		{0, 0, api.OK}, {0, 399, api.OK}, {0, 400, api.ErrRecord}, {1, 0, api.ErrRecord}, {100000, 100000, api.OK}, {100000, 100001, api.ErrRecord},
		{99601, 100000, api.OK}, {99600, 100000, api.ErrRecord}, {99999, 100001, api.ErrRecord}, {100001, 100001, api.ErrRecord}, {-1, 0, api.ErrRecord},
		{math.MaxInt, math.MinInt, api.ErrRecord}, {math.MaxInt, math.MaxInt, api.ErrRecord},
	} {
		if e := register.CheckRecord(told(0, lease(0, 9, 1, c.day, c.until))); e != c.want {
			t.Error(c, e)
		}
	}
}

// invalidRegisters are such.
func invalidRegisters() []api.Register {
	return []api.Register{
		many(81, 0, 0),
		registerOf(happening(0, 0, 1, 1, ""), happening(0, 0, 1, 1, "")),
		registerOf(happening(0, 1, 1, 1, ""), happening(0, 0, 1, 1, "")),
		registerOf(happening(1, 0, 1, 1, ""), happening(0, 5, 1, 1, "")),
		registerOf(happening(0, 0, 1, 1, ""), happening(0, 1, 1, 1, "\n")),
		registerOf(api.Record{}),
		registerOf(happening(0, 0, 0, 1, "")),
		registerOf(happening(0, 0, 1, 1, ""), happening(9, 0, 1, 1, "")),
	}
}

func TestCheck(t *testing.T) {
	for _, g := range []api.Register{
		{}, {Records: []api.Record{}}, many(80, 0, 0), registerOf(x()), registerOf(x(), y(), z()),
		registerOf(happening(0, 9999, 1, 1, ""), happening(1, 0, 1, 1, "")), registerOf(withdrawal(8, 9999, 1, 9998)),
	} {
		if e := register.Check(g); e != api.OK {
			t.Error(g, e)
		}
	}
	for _, g := range invalidRegisters() {
		if e := register.Check(g); e != api.ErrRegister {
			t.Error(g, e)
		}
	}
	// Leases may overlap in a register: only the home takes care.
	both := registerOf(lease(0, 10, 3, 0, 9), lease(1, 10, 4, 5, 14))
	if e := register.Check(both); e != api.OK {
		t.Error(e)
	}
}

// TestNext is of offices with and without records.
func TestNext(t *testing.T) {
	g := registerOf(happening(0, 3, 1, 1, ""), x(), y(), happening(1, 9, 1, 1, ""), happening(8, 9999, 1, 1, ""))
	for office, want := range map[int]int{0: 4, 1: 10, 2: 0, 7: 0, 8: 10000, -1: -1, 9: -1, math.MaxInt: -1, math.MinInt: -1} {
		if n := register.Next(g, office); n != want {
			t.Error(office, n)
		}
	}
	for _, g := range invalidRegisters() {
		if n := register.Next(g, 0); n != -1 {
			t.Error(g, n)
		}
	}
	registers(t, 11, 200, func(m maker, g api.Register) {
		for office := range 9 {
			want := 0
			for _, r := range g.Records {
				if r.At.Office == office {
					want = max(want, r.At.Seq+1)
				}
			}
			if n := register.Next(g, office); n != want {
				t.Fatal(g, office, n)
			}
		}
	})
}

func TestHome(t *testing.T) {
	for ship, want := range map[int]int{10: 1, 0: -1, 1: 1, 8: 8, 9: 0, 999: 0, 998: 8, 1000: -1, -1: -1, -9: -1, math.MaxInt: -1, math.MinInt: -1} {
		if n := register.Home(ship); n != want {
			t.Error(ship, n)
		}
	}
	ships := slices.Collect(func(yield func(int) bool) {
		for ship := 1; ship <= 999 && yield(register.Home(ship)); ship++ {
		}
	})
	for i, home := range ships {
		if home != (i+1)%9 {
			t.Error(i+1, home)
		}
	}
}
