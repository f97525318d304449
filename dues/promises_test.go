package dues_test

import (
	"cmp"
	"slices"
	"testing"

	"moorsom/api"
	"moorsom/dues"
)

// tell is all that files tell of a ship, as known on a day, as text.
func tell(f api.Files, ship, day, known int) string {
	var all []any
	add := func(what ...any) { all = append(all, what...) }
	figures, e := dues.Figures(f, ship, day, known)
	add(figures, e)
	days, e := dues.Days(f, ship, known)
	add(days, e)
	certs, e := dues.Certs(f, ship, known)
	add(certs, e)
	more, gone, e := dues.Issued(f, ship, known)
	add(more, gone, e)
	for _, p := range f.Passages {
		if p.Ship == ship {
			due, e1 := dues.Due(f, p.Id, known)
			posts, e2 := dues.Posts(f, p.Id, known)
			add(due, e1, posts, e2)
		}
	}
	ledger, e := dues.Ledger(f, ship, known)
	add(ledger, e)
	balance, e := dues.Balance(f, ship, known)
	add(balance, e)
	refunds, e := dues.Refunds(f, ship, known)
	add(refunds, e)
	lineage, e := dues.Lineage(f, ship, day, known)
	add(lineage, e)
	dates, e := dues.Dates(f, ship)
	add(slices.DeleteFunc(dates, func(n int) bool { return n > known }), e)
	return text(all)
}

// later are files with more events, which become known behind a day.
func (m maker) later(f api.Files, known int) api.Files {
	kinds := []int{1, 2, 3, 4, 5, 6, 7, 8, 9, 10, 10}
	f.Events = slices.Clone(f.Events)
	for _, office := range []int{0, 3, 8} {
		x := m.event(m.pick(kinds...), place(office, 900))
		if x.Kind == api.EvWithdraw && office != 3 {
			x.Of = place(office, m.Intn(3)) // of one that is there
		}
		x.Known = known + 1 + m.Intn(3)
		f.Events = append(f.Events, x)
	}
	slices.SortFunc(f.Events, func(a, b api.Event) int {
		return cmp.Compare(10000*a.At.Office+a.At.Seq, 10000*b.At.Office+b.At.Seq)
	})
	return f
}

// TestWhatIsBeside is P8.6: passages of other ships, and events that become
// known later, change nothing of what is told.
func TestWhatIsBeside(t *testing.T) {
	lists(t, 93, 300, func(m maker, f api.Files) {
		ship, day, known := m.ship(), m.Intn(m.top+1), m.Intn(m.top+1)
		want := tell(f, ship, day, known)
		beside := m.later(f, known)
		if got := tell(beside, ship, day, known); got != want {
			t.Fatal(f, beside, ship, day, known, got, want)
		}
		for _, p := range []api.Passage{{Id: 90, Ship: 15 - ship, Day: day, Known: m.day(), Rate: 10000}, {Id: 80, Ship: 15 - ship, Day: m.day(), Rate: 77}} {
			more, e := dues.Add(beside, p)
			mustHold(t, e, beside, p)
			beside = more
		}
		if got := tell(beside, ship, day, known); got != want {
			t.Fatal(f, beside, ship, day, known, got, want)
		}
	})
}

// TestTellsTwice: what was told before plays no part.
func TestTellsTwice(t *testing.T) {
	lists(t, 94, 50, func(m maker, f api.Files) {
		ship, day, known := m.ship(), m.day(), m.day()
		before := tell(f, ship, day, known)
		tell(m.files(10), ship, day, known)
		tell(m.later(f, 0), ship, day, known)
		if after := tell(f, ship, day, known); after != before {
			t.Fatal(f, ship, day, known, before, after)
		}
	})
}

// large are files of a ship with as many rooms and events as there may be:
// all is read, and then more and more is known of the tape.
func large() api.Files {
	l := []api.Event{build(0, 1)}
	for id := range 20 {
		l = append(l, room(1+id, 1+id))
	}
	for i := range 40 {
		l = append(l, read(20+i, 1+i%20, 3000+i))
	}
	for i := range 19 {
		l = append(l, told(50+i, tape(50+i, 0, 100000, -100+i, 100-i)))
	}
	f := api.Files{Events: list(0, l...), Laws: manyLaws(4)}
	for id := range 12 {
		f.Passages = append(f.Passages, api.Passage{Id: 1 + id, Ship: 7, Day: 61 + id, Known: 40 + id, Rate: 10000})
	}
	return f
}

// TestLargeFiles: full files tell the same as is found day by day.
func TestLargeFiles(t *testing.T) {
	f := large()
	mustHold(t, dues.Check(f))
	certs, e := dues.Certs(f, 7, 70)
	if want := thoughtCerts(f, 7, 70, 80); e != api.OK || !slices.Equal(certs, want) || len(certs) != 60 {
		t.Error(certs, e)
	}
	ledger, e := dues.Ledger(f, 7, 70)
	want := slices.Concat(thoughtPosts(f, f.Passages[0], 70), thoughtPosts(f, f.Passages[11], 70))
	got := slices.DeleteFunc(slices.Clone(ledger), func(x api.Post) bool { return x.Passage != 1 && x.Passage != 12 })
	slices.SortStableFunc(got, func(a, b api.Post) int { return cmp.Compare(a.Passage, b.Passage) })
	if e != api.OK || !slices.Equal(got, want) || len(ledger) < 200 {
		t.Error(ledger, e, want)
	}
	lineage, e := dues.Lineage(f, 7, 70, 70)
	if e != api.OK || len(lineage) != 62 { // all but the comparisons that tell less than the last one
		t.Error(lineage, e)
	}
}
