package dues_test

import (
	"slices"
	"testing"

	"moorsom/api"
	"moorsom/dues"
)

func TestMovedExamples(t *testing.T) {
	f := document()
	measured := cert(20, 100000, figures(37, 510, 18, 255))
	built := cert(10, 19, api.Figures{})
	for _, c := range []struct {
		known, seq int
		want       []api.Cert
		dues       []int
	}{
		{45, 2, []api.Cert{measured}, []int{1}},
		{45, 3, []api.Cert{measured}, []int{1}},
		{45, 1, []api.Cert{built, measured}, []int{1}}, // without the room the first one goes on
		{45, 0, []api.Cert{built, measured}, []int{1}},
		{45, 4, nil, nil},
		{39, 3, nil, nil},
		{30, 2, []api.Cert{cert(20, 100000, figures(0, 2520, 0, 1260))}, nil},
		{50, 2, nil, nil}, // it is withdrawn
		{50, 3, nil, nil}, // nothing was read with the tape
		{50, 4, []api.Cert{cert(20, 100000, figures(0, 40000, 0, 20000))}, []int{1}},
	} {
		if l, e := dues.Moved(f, 7, c.known, place(7, c.seq)); e != api.OK || !slices.Equal(l, c.want) {
			t.Error(c, l, e)
		}
		if l, e := dues.Moved(f, 8, c.known, place(7, c.seq)); e != api.OK || len(l) != 0 {
			t.Error(c, l, e)
		}
		if l, e := dues.MovedDues(f, c.known, place(7, c.seq)); e != api.OK || !slices.Equal(l, c.dues) {
			t.Error(c, l, e)
		}
	}
}

// TestMovedDues tells all passages, of whatever ship, by their Ids.
func TestMovedDues(t *testing.T) {
	f := document()
	f.Events = append(list(1, of(8, build(10, 2)), of(8, room(10, 5)), of(8, read(20, 5, 5000))), f.Events...)
	f.Passages = []api.Passage{
		{Id: 1, Ship: 8, Day: 22, Known: 20, Rate: 300}, {Id: 2, Ship: 7, Day: 22, Known: 41, Rate: 300}, {Id: 4, Ship: 7, Day: 22, Known: 20, Rate: 300},
		{Id: 5, Ship: 7, Day: 19, Known: 20, Rate: 300}, {Id: 6, Ship: 8, Day: 22, Known: 20, Rate: 0}, {Id: 9, Ship: 7, Day: 30, Known: 20, Rate: 5},
	}
	for _, c := range []struct {
		known int
		at    api.Place
		want  []int
	}{
		{40, place(7, 3), []int{1, 4}}, {41, place(7, 3), []int{1, 2, 4}}, {41, place(7, 2), []int{2, 4}}, {41, place(1, 2), []int{1}},
		{41, place(1, 0), []int{1}}, {39, place(7, 3), nil},
	} {
		if l, e := dues.MovedDues(f, c.known, c.at); e != api.OK || !slices.Equal(l, c.want) {
			t.Error(c, l, e)
		}
	}
}

func TestLineageExamples(t *testing.T) {
	f := document()
	for _, c := range []struct {
		day, known int
		want       []int
	}{
		{20, 25, []int{0, 1}}, {20, 30, []int{0, 1, 2}}, {20, 45, []int{0, 1, 2, 3}}, {20, 50, []int{0, 1, 4}},
		{19, 50, []int{0}}, // her figures are 0, and without her being built there are none
	} {
		var want []api.Place
		for _, seq := range c.want {
			want = append(want, place(7, seq))
		}
		if l, e := dues.Lineage(f, 7, c.day, c.known); e != api.OK || !slices.Equal(l, want) {
			t.Error(c, l, e)
		}
	}
	// Each of two readings alone tells as much as both.
	f.Events = append(f.Events, put(told(30, read(20, 5, 100)), place(8, 0)))
	if l, e := dues.Lineage(f, 7, 20, 45); e != api.OK || !slices.Equal(l, []api.Place{place(7, 0), place(7, 1), place(7, 3)}) {
		t.Error(l, e)
	}
	// The flag counts only where figures are others by its law, or there is none.
	f = api.Files{Events: list(0, build(10, 2), flag(12, 3), flag(14, 4)), Laws: []api.Law{simple(2), simple(3), law(4, "version 0", "gross 1 0 1000 0")}}
	for day, want := range map[int][]api.Place{12: {place(0, 0)}, 14: {place(0, 0), place(0, 2)}} {
		if l, e := dues.Lineage(f, 7, day, 50); e != api.OK || !slices.Equal(l, want) {
			t.Error(day, l, e)
		}
	}
}

// TestThoughtMoved: what an event moves is what differs in files without it.
func TestThoughtMoved(t *testing.T) {
	certs, passages, places := 0, 0, 0
	lists(t, 86, 500, func(m maker, f api.Files) {
		ship, day, known := m.ship(), m.Intn(m.top+1), m.Intn(m.top+1)
		now := thoughtCerts(f, ship, known, m.top)
		for range 3 {
			at := f.Events[m.Intn(len(f.Events))].At
			rest := less(f, at)
			moved, e := dues.Moved(f, ship, known, at)
			if e != api.OK || !slices.Equal(moved, without(now, thoughtCerts(rest, ship, known, m.top))) {
				t.Fatal(f, ship, known, at, moved, e)
			}
			ids, e := dues.MovedDues(f, known, at)
			if e != api.OK || !slices.Equal(ids, thoughtMovedDues(f, rest, known)) {
				t.Fatal(f, known, at, ids, e)
			}
			certs, passages = certs+len(moved), passages+len(ids)
		}
		lineage, e := dues.Lineage(f, ship, day, known)
		if _, _, some := thought(f, ship, day, known); (e == api.OK) != some || !slices.Equal(lineage, thoughtLineage(f, ship, day, known)) {
			t.Fatal(f, ship, day, known, lineage, e)
		}
		places += len(lineage)
	})
	if certs < 200 || passages < 50 || places < 300 {
		t.Error("too little is moved", certs, passages, places)
	}
}

func thoughtMovedDues(f, rest api.Files, known int) []int {
	var ids []int
	for _, p := range f.Passages {
		if thoughtDue(f, p, known) != thoughtDue(rest, p, known) {
			ids = append(ids, p.Id)
		}
	}
	return ids
}

func thoughtLineage(f api.Files, ship, day, known int) []api.Place {
	_, all, some := thought(f, ship, day, known)
	if !some {
		return nil
	}
	var places []api.Place
	for _, x := range f.Events {
		if _, figures, some := thought(less(f, x.At), ship, day, known); !some || figures != all {
			places = append(places, x.At)
		}
	}
	return places
}

// TestStaysIsCertified is P8.5: where no certificate is moved, and there are
// as many without the event, no due is; what does not stand moves nothing.
func TestStaysIsCertified(t *testing.T) {
	stay, fallen := 0, 0
	lists(t, 87, 500, func(m maker, f api.Files) {
		ship, known := m.ship(), m.Intn(m.top+1)
		x := f.Events[m.Intn(len(f.Events))]
		moved, e1 := dues.Moved(f, ship, known, x.At)
		ids, e2 := dues.MovedDues(f, known, x.At)
		certs, e3 := dues.Certs(f, ship, known)
		fewer, e4 := dues.Certs(less(f, x.At), ship, known)
		mustHold(t, max(e1, e2, e3, e4), f, x)
		for _, c := range certs {
			if !slices.Contains(moved, c) && !slices.Contains(fewer, c) {
				t.Fatal(f, ship, known, x, moved)
			}
		}
		hers := func(p api.Passage) bool { return p.Ship == ship && slices.Contains(ids, p.Id) }
		if len(moved) == 0 && len(certs) == len(fewer) {
			stay++
			if slices.ContainsFunc(f.Passages, hers) {
				t.Fatal(f, ship, known, x, ids)
			}
		}
		if !stands(f, x, known) {
			fallen++
			if len(moved)+len(ids) > 0 {
				t.Fatal(f, ship, known, x, moved, ids)
			}
		}
	})
	if stay < 100 || fallen < 100 {
		t.Error("too seldom", stay, fallen)
	}
}

// stands says whether an event stands.
func stands(f api.Files, x api.Event, known int) bool {
	return x.Known <= known && !slices.ContainsFunc(f.Events, func(w api.Event) bool {
		return w.Kind == api.EvWithdraw && w.Of == x.At && stands(f, w, known)
	})
}
