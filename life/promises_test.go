package life_test

import (
	"slices"
	"testing"

	"moorsom/api"
	"moorsom/life"
	"moorsom/offsets"
)

// stateText is what State tells, as text; "" is a ship that is not there.
func stateText(t *testing.T, l []api.Event, ship, day, known int) string {
	t.Helper()
	s, e := life.State(l, ship, day, known)
	if e == api.ErrShip {
		return ""
	}
	mustHold(t, e, l, ship, day, known)
	return text(s)
}

// TestKnownLater is P5.2: what becomes known later changes nothing that is as known.
func TestKnownLater(t *testing.T) {
	later := 0
	lists(t, 51, 300, func(m maker, l []api.Event) {
		known := m.Intn(m.top)
		earlier := slices.DeleteFunc(slices.Clone(l), func(x api.Event) bool { return x.Known > known })
		later += len(l) - len(earlier)
		for range 5 {
			ship, day := m.ship(), m.Intn(m.top)
			if stateText(t, l, ship, day, known) != stateText(t, earlier, ship, day, known) {
				t.Fatal(l, ship, day, known)
			}
			a, e1 := life.Days(l, ship, known)
			b, e2 := life.Days(earlier, ship, known)
			if max(e1, e2) != api.OK || !slices.Equal(a, b) {
				t.Fatal(l, ship, known, a, b)
			}
		}
	})
	if later < 300 {
		t.Error("too few events are known later:", later)
	}
}

// namedBy is how many events of a list withdraw what is at a place.
func namedBy(l []api.Event, at api.Place) int {
	n := 0
	for _, x := range l {
		if x.Kind == api.EvWithdraw && x.Of == at {
			n++
		}
	}
	return n
}

// TestWithdrawnEvents is P5.2 too: an event that is withdrawn, and its
// withdrawal, change nothing, if nothing else names them.
func TestWithdrawnEvents(t *testing.T) {
	pairs := 0
	lists(t, 52, 500, func(m maker, l []api.Event) {
		known := m.top
		for _, w := range l {
			named := slices.ContainsFunc(l, func(x api.Event) bool { return x.At == w.Of })
			if w.Kind != api.EvWithdraw || !named || namedBy(l, w.Of) != 1 || namedBy(l, w.At) != 0 {
				continue
			}
			pairs++
			for range 5 {
				ship, day := m.ship(), m.Intn(m.top)
				if stateText(t, l, ship, day, known) != stateText(t, less(l, w.Of, w.At), ship, day, known) {
					t.Fatal(l, w, ship, day)
				}
			}
		}
	})
	if pairs < 200 {
		t.Error("too few withdrawals:", pairs)
	}
}

// TestLaterDays is P5.3: what is of a later day changes nothing of a day,
// unless it is of a tape or a withdrawal.
func TestLaterDays(t *testing.T) {
	later := 0
	lists(t, 53, 300, func(m maker, l []api.Event) {
		day := m.Intn(m.top)
		earlier := slices.DeleteFunc(slices.Clone(l), func(x api.Event) bool { return x.Day > day && x.Kind < api.EvTape })
		later += len(l) - len(earlier)
		for range 5 {
			ship, known := m.ship(), m.Intn(m.top)
			if stateText(t, l, ship, day, known) != stateText(t, earlier, ship, day, known) {
				t.Fatal(l, ship, day, known)
			}
		}
	})
	if later < 300 {
		t.Error("too few events are of later days:", later)
	}
}

// TestOrder is P5.3 too: in whatever order events come, the list is the same.
func TestOrder(t *testing.T) {
	lists(t, 54, 60, func(m maker, l []api.Event) {
		var grown []api.Event
		for _, i := range m.Perm(len(l)) {
			next, e := life.Add(grown, l[i])
			mustHold(t, e, grown, l[i])
			grown = next
		}
		if !same(grown, l) {
			t.Fatal(l, grown)
		}
	})
}

// last is the last number of a rising list that is not greater; -1 if there is none.
func last(l []int, n int) int {
	found := -1
	for _, m := range l {
		if m <= n {
			found = m
		}
	}
	return found
}

// TestLastDay is P5.4: a ship is what she became on the last one of Days, and
// what she was known to be on the last one of Dates.
func TestLastDay(t *testing.T) {
	lists(t, 55, 250, func(m maker, l []api.Event) {
		ship, known := m.ship(), m.Intn(m.top)
		days, e1 := life.Days(l, ship, known)
		dates, e2 := life.Dates(l, ship)
		mustHold(t, max(e1, e2), l, ship, known)
		for day := range m.top + 1 {
			then := ""
			if n := last(days, day); n >= 0 {
				then = stateText(t, l, ship, n, known)
				if then == "" {
					t.Fatal(l, ship, n, known)
				}
			}
			if now := stateText(t, l, ship, day, known); now != then {
				t.Fatal(l, ship, day, known, days)
			}
			then = ""
			if n := last(dates, day); n >= 0 {
				then = stateText(t, l, ship, known, n)
			}
			if now := stateText(t, l, ship, known, day); now != then {
				t.Fatal(l, ship, known, day, dates)
			}
		}
	})
}

// inside reports whether a number is from lo to hi.
func inside(n, lo, hi int) bool { return lo <= n && n <= hi }

// mustBeValid examines a state and all that it has.
func mustBeValid(t *testing.T, s api.State) {
	t.Helper()
	mustHold(t, offsets.Check(s.Hull), s)
	if !inside(s.Ship, 1, 999) || !inside(s.Flag, 1, 9) || len(s.Cells) > 20 {
		t.Fatal(s)
	}
	id := 0
	for _, c := range s.Cells {
		mustHold(t, offsets.Check(c.Survey), s)
		r := c.Room
		if r.Id <= id || r.Id > 999 || r.Id != c.Survey.Space.Id || r.Id == s.Hull.Space.Id || r.Litres != (api.Range{}) ||
			!inside(r.Kind, 1, 9) || !inside(r.Opening, 0, 1000) || !inside(r.Crew, 0, 999) {
			t.Fatal(s)
		}
		id = r.Id
	}
}

// TestRests is P5.5: the events of Rests alone give the same state, which is valid.
func TestRests(t *testing.T) {
	fewer := 0
	lists(t, 56, 400, func(m maker, l []api.Event) {
		for range 5 {
			ship, day, known := m.ship(), m.Intn(m.top), m.Intn(m.top)
			s, e := life.State(l, ship, day, known)
			if e == api.ErrShip {
				continue
			}
			mustHold(t, e, l)
			mustBeValid(t, s)
			rests, e := life.Rests(l, ship, day, known)
			mustHold(t, e, l)
			alone := slices.DeleteFunc(slices.Clone(l), func(x api.Event) bool { return !slices.Contains(rests, x.At) })
			if len(alone) != len(rests) || stateText(t, alone, ship, day, known) != text(s) {
				t.Fatal(l, ship, day, known, rests)
			}
			if void, e := life.Void(alone, ship, day, known); e != api.OK || len(void) != 0 {
				t.Fatal(l, ship, day, known, void, e)
			}
			fewer += len(l) - len(alone)
		}
	})
	if fewer < 1000 {
		t.Error("too few events are left out:", fewer)
	}
}

// TestUntouched is P5.6: a ship that is not touched is the same without the event.
func TestUntouched(t *testing.T) {
	untouched, touching := 0, 0
	lists(t, 57, 150, func(m maker, l []api.Event) {
		known := m.Intn(m.top)
		for _, x := range l {
			touched, e := life.Touched(l, x.At, known)
			mustHold(t, e, l, x)
			touching += len(touched)
			without, e := life.Without(l, x.At)
			mustHold(t, e, l, x)
			for _, ship := range []int{7, 8, 999, 5} {
				if slices.Contains(touched, ship) {
					continue
				}
				untouched++
				day := m.Intn(m.top)
				if stateText(t, l, ship, day, known) != stateText(t, without, ship, day, known) {
					t.Fatal(l, x, ship, day, known)
				}
			}
		}
	})
	if touching < 200 || untouched < 200 {
		t.Error("too few are touched, or not:", touching, untouched)
	}
}

// TestBuiltNoMore is P5.6 too: a ship that is there is touched by the
// withdrawal of the event that built her, unless another one builds her.
func TestBuiltNoMore(t *testing.T) {
	ships := 0
	lists(t, 58, 300, func(m maker, l []api.Event) {
		known := m.top
		for _, x := range l {
			builds := func(y api.Event) bool { return y.Kind == api.EvBuild && y.Ship == x.Ship && stands(l, y, known) }
			if !builds(x) || slices.ContainsFunc(less(l, x.At), builds) {
				continue
			}
			w := api.Event{At: place(x.At.Office, 9999), Kind: api.EvWithdraw, Known: known, Of: x.At}
			more, e := life.Add(l, w)
			mustHold(t, e, l, w)
			touched, e := life.Touched(more, w.At, known)
			if e != api.OK || !slices.Contains(touched, x.Ship) {
				t.Fatal(l, w, touched, e)
			}
			if now := stateText(t, more, x.Ship, m.top, known); now != "" {
				t.Fatal(l, w, now)
			}
			ships++
		}
	})
	if ships < 100 {
		t.Error("too few ships are built once:", ships)
	}
}
