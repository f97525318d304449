package dues_test

import (
	"slices"
	"testing"

	"moorsom/api"
	"moorsom/dues"
)

// cert is one of the ship 7 with the flag 2.
func cert(from, to int, f api.Figures) api.Cert {
	return api.Cert{Ship: 7, Flag: 2, From: from, To: to, Figures: f}
}

func TestDaysAndDates(t *testing.T) {
	f := example()
	for known, want := range map[int][]int{30: {0, 10, 20, 30}, 50: {0, 10, 20, 25, 30, 50}, 60: {0, 10, 20, 25, 30}, 9: {0}} {
		if l, e := dues.Days(f, 7, known); e != api.OK || !slices.Equal(l, want) {
			t.Error(known, l, e)
		}
	}
	f.Laws = append(f.Laws, law(3, "version 20", "version 22", "version 70"), law(9, "version 22", "version 100000"))
	for ship, want := range map[int][]int{7: {0, 10, 20, 22, 25, 30, 50, 70, 100000}, 8: {0, 20, 22, 70, 100000}} {
		if l, e := dues.Days(f, ship, 50); e != api.OK || !slices.Equal(l, want) {
			t.Error(ship, l, e)
		}
	}
	if l, e := dues.Dates(f, 7); e != api.OK || !slices.Equal(l, []int{10, 20, 22, 30, 32, 40, 45, 50, 60}) {
		t.Error(l, e)
	}
	// Of other ships there are dates of tapes and withdrawals alone.
	f.Passages[1].Ship, f.Passages[0].Known = 8, 50
	for ship, want := range map[int][]int{7: {10, 20, 30, 40, 45, 50, 60}, 8: {32, 45, 60}, 9: {45, 60}} {
		if l, e := dues.Dates(f, ship); e != api.OK || !slices.Equal(l, want) {
			t.Error(ship, l, e)
		}
	}
}

func TestCertExamples(t *testing.T) {
	f := example()
	none, all := figures(0, 0, 0, 0), figures(0, 40000, 0, 20000)
	for _, c := range []struct {
		known int
		want  []api.Cert
	}{
		{9, nil},
		{10, []api.Cert{cert(10, 100000, none)}},
		{22, []api.Cert{cert(10, 19, none), cert(20, 100000, all)}},
		{30, []api.Cert{cert(10, 19, none), cert(20, 29, all), cert(30, 100000, none)}},
		{40, []api.Cert{cert(10, 19, none), cert(20, 24, all), cert(25, 29, figures(0, 2520, 0, 1260)), cert(30, 100000, none)}},
		{50, []api.Cert{cert(10, 19, none), cert(20, 24, all), cert(25, 29, figures(37, 510, 18, 255)), cert(30, 100000, none)}},
	} {
		if l, e := dues.Certs(f, 7, c.known); e != api.OK || !slices.Equal(l, c.want) {
			t.Error(c, l, e)
		}
		for _, x := range c.want {
			if e := dues.CheckCert(f, c.known, x); e != api.OK {
				t.Error(c, x, e)
			}
		}
	}
	if l, e := dues.Certs(f, 8, 60); e != api.OK || len(l) != 0 {
		t.Error(l, e)
	}
	more, gone, e := dues.Issued(f, 7, 30)
	if e != api.OK || !slices.Equal(more, []api.Cert{cert(20, 29, all), cert(30, 100000, none)}) || !slices.Equal(gone, []api.Cert{cert(20, 100000, all)}) {
		t.Error(more, gone, e)
	}
	if more, gone, e = dues.Issued(f, 7, 31); e != api.OK || len(more)+len(gone) != 0 {
		t.Error(more, gone, e)
	}
	more, gone, e = dues.Issued(document(), 7, 50)
	if e != api.OK || !slices.Equal(more, []api.Cert{cert(20, 100000, all)}) || !slices.Equal(gone, []api.Cert{cert(20, 100000, figures(37, 510, 18, 255))}) {
		t.Error(more, gone, e)
	}
}

// TestFirstAndLastDay: certificates begin on the day 0 and end on the last
// one, and so does what is known.
func TestFirstAndLastDay(t *testing.T) {
	f := api.Files{Events: list(0, build(0, 2), told(0, flag(100000, 5))), Laws: []api.Law{simple(2), simple(5)}}
	want := []api.Cert{{Ship: 7, Flag: 2, To: 99999}, {Ship: 7, Flag: 5, From: 100000, To: 100000}}
	more, gone, e := dues.Issued(f, 7, 0)
	if e != api.OK || !slices.Equal(more, want) || len(gone) != 0 {
		t.Error(more, gone, e)
	}
	if more, gone, e = dues.Issued(f, 7, 1); e != api.OK || len(more)+len(gone) != 0 {
		t.Error(more, gone, e)
	}
	f.Events[1].Known = 100000
	more, gone, e = dues.Issued(f, 7, 100000)
	if e != api.OK || !slices.Equal(more, want) || !slices.Equal(gone, []api.Cert{{Ship: 7, Flag: 2, To: 100000}}) {
		t.Error(more, gone, e)
	}
}

// TestGreatestSpans: what changes, but neither her flag nor her figures, ends
// no certificate; what comes again behind something else is another one.
func TestGreatestSpans(t *testing.T) {
	laws := []api.Law{law(1, "version 2", "put 1", "gross 1 0 3000 0", "version 6", "put 2", "gross 2 0 3000 0", "version 8", "put 1", "gross 1 0 4000 0", "version 9", "put 2", "gross 1 0 1000 0", "gross 5 0 2000 0"), law(3, "version 0", "gross 1 0 3000 0"), law(4, "version 3", "version 7", "net 1 0 1 0")}
	f := api.Files{Events: list(0, build(1, 1), room(4, 5), opening(5, 5, 1), flag(12, 3), flag(14, 2), flag(16, 3), flag(18, 3)), Laws: laws}
	three := figures(3, 3, 0, 0)
	want := []api.Cert{
		{Ship: 7, Flag: 1, From: 2, To: 7, Figures: three}, {Ship: 7, Flag: 1, From: 8, To: 8, Figures: figures(4, 4, 0, 0)},
		{Ship: 7, Flag: 1, From: 9, To: 11, Figures: three}, {Ship: 7, Flag: 3, From: 12, To: 13, Figures: three},
		{Ship: 7, Flag: 3, From: 16, To: 100000, Figures: three},
	}
	certs, e := dues.Certs(f, 7, 50)
	if e != api.OK || !slices.Equal(certs, want) {
		t.Error(certs, e)
	}
}

// TestThoughtCerts is P8.2: the certificates are those that are found day by
// day, and CheckCert accepts them alone.
func TestThoughtCerts(t *testing.T) {
	seen, parts := 0, 0
	lists(t, 82, 500, func(m maker, f api.Files) {
		ship, known := m.ship(), m.Intn(m.top+1)
		want := map[int][]api.Cert{7: thoughtCerts(f, 7, known, m.top), 8: thoughtCerts(f, 8, known, m.top)}
		certs, e := dues.Certs(f, ship, known)
		if e != api.OK || !slices.Equal(certs, want[ship]) {
			t.Fatal(f, ship, known, certs, e, want)
		}
		for i, c := range certs {
			for _, x := range append(m.others(c), c) {
				if e := dues.CheckCert(f, known, x); (e == api.OK) != slices.Contains(want[x.Ship], x) || e != api.OK && e != api.ErrCert {
					t.Fatal(f, known, x, e)
				}
			}
			seen++
			if i > 0 && certs[i-1].To+1 == c.From {
				parts++
			}
		}
	})
	if seen < 300 || parts < 100 {
		t.Error("too few certificates", seen, parts)
	}
}

// others are certificates that differ from one.
func (m maker) others(c api.Cert) []api.Cert {
	others := []api.Cert{c, c, c, c, c, c, c, c, c}
	sign := m.pick(-1, 1)
	others[0].Ship = 15 - c.Ship
	others[1].Flag += sign
	others[2].From += sign
	others[3].To += sign
	others[4].Figures.Gross.Lo += sign
	others[5].Figures.Gross.Hi += sign
	others[6].Figures.Net.Lo += sign
	others[7].Figures.Net.Hi += sign
	others[8] = api.Cert{Ship: c.Ship}
	return others
}

// without are the certificates of a list that are not in another one.
func without(certs, others []api.Cert) []api.Cert {
	return slices.DeleteFunc(slices.Clone(certs), func(c api.Cert) bool { return slices.Contains(others, c) })
}

// TestReissued is P8.3: from day to day the certificates are those of the day
// before, without what is gone, and with what is more; and Dates has each day
// on which something is issued.
func TestReissued(t *testing.T) {
	issued := 0
	lists(t, 83, 150, func(m maker, f api.Files) {
		ship := m.ship()
		dates, e := dues.Dates(f, ship)
		mustHold(t, e, f)
		var before []api.Cert
		for known := range m.top + 1 {
			more, gone, e := dues.Issued(f, ship, known)
			now := thoughtCerts(f, ship, known, m.top)
			if e != api.OK || !slices.Equal(more, without(now, before)) || !slices.Equal(gone, without(before, now)) {
				t.Fatal(f, ship, known, more, gone, e)
			}
			if len(more)+len(gone) > 0 && !slices.Contains(dates, known) {
				t.Fatal(f, ship, known, dates)
			}
			if len(without(before, gone))+len(more) != len(now) || len(without(more, gone)) != len(more) {
				t.Fatal(f, ship, known, more, gone)
			}
			issued += len(more) + len(gone)
			before = now
		}
	})
	if issued < 300 {
		t.Error("too little is issued:", issued)
	}
}

// TestThoughtDays: Days and Dates are what the chapter lists.
func TestThoughtDays(t *testing.T) {
	lists(t, 84, 100, func(m maker, f api.Files) {
		ship, known := m.ship(), m.Intn(m.top)
		days, e1 := dues.Days(f, ship, known)
		dates, e2 := dues.Dates(f, ship)
		mustHold(t, max(e1, e2), f)
		for day := range m.top + 1 {
			if want := isDay(t, f, ship, day, known); slices.Contains(days, day) != want {
				t.Fatal(f, ship, day, known, days)
			}
			if want := isDate(f, ship, day); slices.Contains(dates, day) != want {
				t.Fatal(f, ship, day, dates)
			}
		}
		if !isRising(days) || !isRising(dates) {
			t.Fatal(f, ship, known, days, dates)
		}
	})
}

func isRising(l []int) bool {
	return slices.IsSorted(l) && len(slices.Compact(slices.Clone(l))) == len(l)
}
