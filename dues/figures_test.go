package dues_test

import (
	"slices"
	"testing"

	"moorsom/api"
	"moorsom/dues"
)

func TestFiguresExamples(t *testing.T) {
	for _, c := range []struct {
		day, known int
		want       api.Figures
		e          api.Errno
	}{
		{22, 22, figures(0, 40000, 0, 20000), api.OK},
		{30, 30, figures(0, 0, 0, 0), api.OK},
		{25, 40, figures(0, 2520, 0, 1260), api.OK},
		{25, 45, figures(37, 510, 18, 255), api.OK},
		{5, 60, api.Figures{}, api.ErrShip},
		{10, 9, api.Figures{}, api.ErrShip},
	} {
		if got, e := dues.Figures(example(), 7, c.day, c.known); got != c.want || e != c.e {
			t.Error(c, got, e)
		}
	}
	for known, want := range map[int]api.Figures{29: figures(0, 40000, 0, 20000), 30: figures(0, 2520, 0, 1260), 40: figures(37, 510, 18, 255), 50: figures(0, 40000, 0, 20000)} {
		if got, e := dues.Figures(document(), 7, 20, known); got != want || e != api.OK {
			t.Error(known, got, e)
		}
	}
}

// twice are readings of a room that no hull keeps.
func twice(day, id int) []api.Event {
	return []api.Event{read(day, id, 100), read(day, id, 5000)}
}

// TestWithoutFigures: what is wrong is told by the error of what is asked
// first.
func TestWithoutFigures(t *testing.T) {
	late := law(2, "version 30", "put 1", "gross 1 0 0 1000")
	// A room that is broad only at its first station, where the weight is less
	// than 0, is told to have less than 0 litres.
	odd := room(12, 6)
	odd.Space.Stations, odd.Space.Fair.Along = []int{0, 10, 40}, 100000
	for i, c := range []struct {
		events []api.Event
		law    api.Law
		want   api.Errno
	}{
		{[]api.Event{build(10, 2), room(11, 5)}, simple(2), api.OK},
		{append([]api.Event{build(21, 2), room(11, 5)}, twice(12, 5)...), simple(2), api.ErrShip},
		{append([]api.Event{build(10, 3), room(11, 5)}, twice(12, 5)...), late, api.ErrRule},
		{append([]api.Event{build(10, 2), room(11, 5), flag(20, 4)}, twice(12, 5)...), late, api.ErrRule},
		{append([]api.Event{build(10, 2), room(11, 5)}, twice(12, 5)...), simple(2), api.ErrFalse},
		{append([]api.Event{build(10, 2), odd, room(11, 5)}, twice(12, 5)...), late, api.ErrFalse},
		{append([]api.Event{build(10, 2), room(11, 5), odd}, twice(12, 5)...), simple(2), api.ErrFalse},
		{[]api.Event{build(10, 2), odd}, late, api.ErrForce},
		{[]api.Event{build(10, 2), odd}, simple(2), api.ErrRoom},
		{append([]api.Event{build(10, 2), room(11, 5)}, twice(12, 100)...), simple(2), api.OK}, // of the hull
	} {
		f := api.Files{Events: list(0, c.events...), Laws: []api.Law{c.law}, Passages: []api.Passage{{Id: 3, Ship: 7, Day: 20, Known: 20, Rate: 100}}}
		got, e := dues.Figures(f, 7, 20, 20)
		if e != c.want || e != api.OK && got != (api.Figures{}) {
			t.Error(i, got, e)
		}
		if l, e := dues.Lineage(f, 7, 20, 20); e != c.want || e != api.OK && len(l) > 0 {
			t.Error(i, l, e)
		}
		certs, e := dues.Certs(f, 7, 20)
		on := func(x api.Cert) bool { return x.From <= 20 && 20 <= x.To }
		if e != api.OK || slices.ContainsFunc(certs, on) != (c.want == api.OK) {
			t.Error(i, certs, e)
		}
		if due, e := dues.Due(f, 3, 20); due != 0 || e != api.OK {
			t.Error(i, due, e)
		}
	}
}

// TestFlags: the law is that of the ship's flag on the day.
func TestFlags(t *testing.T) {
	f := api.Files{
		Events: list(0, build(10, 2), room(11, 5), read(11, 5, 2000), tape(11, 0, 100, 0, 0), flag(20, 9), flag(30, 1)),
		Laws:   []api.Law{law(1, "version 0", "put 1", "net 1 0 7000 0"), simple(2), law(9, "version 0", "put 0", "version 25", "put 1", "gross 1 0 0 2000")},
	}
	litres := api.Range{Lo: 3680, Hi: 4320} // 1990 + 1790 + 1890 + 1690, and 2010 + 2210 + 2110 + 2310, halved
	double := api.Range{Lo: 7360, Hi: 8640}
	half := api.Range{Lo: 1840, Hi: 2160}
	want := []api.Cert{
		{Ship: 7, Flag: 2, From: 10, To: 10},
		{Ship: 7, Flag: 2, From: 11, To: 19, Figures: api.Figures{Gross: litres, Net: half}},
		{Ship: 7, Flag: 9, From: 20, To: 24},
		{Ship: 7, Flag: 9, From: 25, To: 29, Figures: api.Figures{Gross: double}},
		{Ship: 7, Flag: 1, From: 30, To: 100000, Figures: figures(0, 0, 7, 7)},
	}
	certs, e := dues.Certs(f, 7, 30)
	if e != api.OK || !slices.Equal(certs, want) {
		t.Error(certs, e)
	}
}

// TestThoughtFigures holds Figures against what the layers tell.
func TestThoughtFigures(t *testing.T) {
	some, none := 0, map[api.Errno]int{}
	lists(t, 81, 2000, func(m maker, f api.Files) {
		for range 10 {
			ship, day, known := m.ship(), m.Intn(m.top+1), m.Intn(m.top+1)
			_, want, has := thought(f, ship, day, known)
			got, e := dues.Figures(f, ship, day, known)
			if got != want || (e == api.OK) != has {
				t.Fatal(f, ship, day, known, got, e, want)
			}
			if has && want != (api.Figures{}) {
				some++
			}
			none[e]++
		}
	})
	for _, e := range []api.Errno{api.ErrShip, api.ErrRule, api.ErrFalse, api.ErrForce, api.ErrRoom} {
		if some < 500 || none[e] < 40 {
			t.Error("too seldom", e, some, none)
		}
	}
}
