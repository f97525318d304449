package dues_test

import (
	"fmt"
	"math/rand"
	"slices"
	"strings"
	"testing"

	"moorsom/api"
	"moorsom/code"
	"moorsom/dues"
	"moorsom/life"
	"moorsom/offsets"
)

// text is a value as text, in which nil and empty lists are the same.
func text(a any) string { return fmt.Sprint(a) }

// same holds values against each other.
func same(a, b any) bool { return text(a) == text(b) }

// mustHold fails a test if an error is not OK.
func mustHold(t *testing.T, e api.Errno, what ...any) {
	t.Helper()
	if e != api.OK {
		t.Fatal(append(what, e)...)
	}
}

func place(office, seq int) api.Place { return api.Place{Office: office, Seq: seq} }

// put is an event at another place, with its sources.
func put(x api.Event, p api.Place) api.Event {
	x.At = p
	source := 10000*p.Office + p.Seq + 1
	switch x.Kind {
	case api.EvBuild, api.EvRoom:
		x.Space.Source = source
	case api.EvRead:
		x.Reading.Source = source
	case api.EvTape:
		x.Compare.Source = source
	}
	return x
}

// list gives events the places of an office, from 0 on.
func list(office int, events ...api.Event) []api.Event {
	var l []api.Event
	for i, x := range events {
		l = append(l, put(x, place(office, i)))
	}
	return l
}

// spaceOf is a metre long and high. Its half-breadths change by so many
// millimetres a metre, along and up.
func spaceOf(id, along, up int) api.Space {
	return api.Space{Id: id, Stations: []int{0, 1000}, Waters: []int{0, 1000}, Fair: api.Fair{Along: along, Up: up}}
}

// What may happen to the ship 7; it is known on its day.

func build(day, flag int) api.Event {
	return api.Event{Kind: api.EvBuild, Ship: 7, Day: day, Known: day, Num: flag, Space: spaceOf(100, 100, 200)}
}

func room(day, id int) api.Event {
	return api.Event{Kind: api.EvRoom, Ship: 7, Day: day, Known: day, Num: 3, Crew: 4, Space: spaceOf(id, 100, 200)}
}

func gone(day, id int) api.Event {
	return api.Event{Kind: api.EvGone, Ship: 7, Day: day, Known: day, Room: id}
}

func opening(day, id, n int) api.Event {
	return api.Event{Kind: api.EvOpening, Ship: 7, Day: day, Known: day, Room: id, Num: n}
}

func flag(day, n int) api.Event {
	return api.Event{Kind: api.EvFlag, Ship: 7, Day: day, Known: day, Num: n}
}

func read(day, id, value int) api.Event {
	r := api.Reading{Value: value, Tolerance: 10, Tape: 1, Day: day}
	return api.Event{Kind: api.EvRead, Ship: 7, Day: day, Known: day, Room: id, Reading: r}
}

func tape(day, from, to, lo, hi int) api.Event {
	return api.Event{Kind: api.EvTape, Ship: 7, Day: day, Known: day, Compare: api.Compare{Tape: 1, From: from, To: to, Lo: lo, Hi: hi}}
}

func withdraw(known, office, seq int) api.Event {
	return api.Event{Kind: api.EvWithdraw, Known: known, Of: place(office, seq)}
}

// of is an event of another ship.
func of(ship int, x api.Event) api.Event {
	x.Ship = ship
	return x
}

// told is an event that is known on another day.
func told(known int, x api.Event) api.Event {
	x.Known = known
	return x
}

// law is the law of a flag with the lines of a code, behind its name.
func law(flag int, lines ...string) api.Law {
	c, line, e := code.Parse("code red\n" + strings.Join(lines, "\n"))
	if e != api.OK {
		panic(fmt.Sprint(lines, line, e))
	}
	return api.Law{Flag: flag, Code: c}
}

// simple is a law by which each litre counts: gross is litres, net the half.
func simple(flag int) api.Law {
	return law(flag, "version 0", "put 1", "gross 1 0 0 1000", "net 1 0 0 500")
}

// example is F of the chapter's examples.
func example() api.Files {
	return api.Files{
		Events: list(0, build(10, 2), room(20, 5), opening(30, 5, 500), told(40, read(25, 5, 100)), gone(50, 5), withdraw(60, 0, 4), told(45, tape(35, 20, 30, 5, 15))),
		Laws: []api.Law{law(2, "version 0", "put 1 kind = 3 opening < 400", "put 2",
			"gross 1 0 0 1000", "net 1 0 0 500")},
		Passages: []api.Passage{{Id: 1, Ship: 7, Day: 22, Known: 22, Rate: 3}, {Id: 2, Ship: 7, Day: 32, Known: 32, Rate: 3}},
	}
}

// document is the example of DOC.md, up to its ledger.
func document() api.Files {
	return api.Files{
		Events:   list(7, build(10, 2), room(20, 5), told(30, read(20, 5, 100)), told(40, tape(21, 0, 100, 5, 15)), withdraw(50, 7, 2)),
		Laws:     []api.Law{simple(2)},
		Passages: []api.Passage{{Id: 1, Ship: 7, Day: 22, Known: 20, Rate: 300}},
	}
}

// figures are those with these ends of both ranges.
func figures(grossLo, grossHi, netLo, netHi int) api.Figures {
	return api.Figures{Gross: api.Range{Lo: grossLo, Hi: grossHi}, Net: api.Range{Lo: netLo, Hi: netHi}}
}

// What the chapter says, by its own means: day by day, and nothing is kept.

// thought is a ship's flag and figures on a day, as known on a day, and
// whether she has any.
func thought(f api.Files, ship, day, known int) (int, api.Figures, bool) {
	s, e := life.State(f.Events, ship, day, known)
	i := slices.IndexFunc(f.Laws, func(l api.Law) bool { return l.Flag == s.Flag })
	if e != api.OK || i < 0 {
		return 0, api.Figures{}, false
	}
	var rooms []api.Room
	for _, c := range s.Cells {
		whole := api.What{Kind: api.WhatLitres, Water: len(c.Survey.Space.Waters) - 1}
		litres, e := offsets.Bound(c.Survey, whole)
		if e != api.OK {
			return 0, api.Figures{}, false
		}
		c.Room.Litres = litres
		rooms = append(rooms, c.Room)
	}
	gross, e1 := code.Judge(f.Laws[i].Code, day, api.Gross, rooms)
	net, e2 := code.Judge(f.Laws[i].Code, day, api.Net, rooms)
	if max(e1, e2) != api.OK {
		return 0, api.Figures{}, false
	}
	return s.Flag, api.Figures{Gross: gross, Net: net}, true
}

// thoughtCerts are the certificates of a ship in files in which nothing
// happens from the day top on.
func thoughtCerts(f api.Files, ship, known, top int) []api.Cert {
	var certs []api.Cert
	goes := false // whether the last certificate is that of the day before
	for day := range top + 1 {
		flag, figures, some := thought(f, ship, day, known)
		now := api.Cert{Ship: ship, Flag: flag, From: day, To: day, Figures: figures}
		if goes && some && now.Flag == certs[len(certs)-1].Flag && now.Figures == certs[len(certs)-1].Figures {
			certs[len(certs)-1].To = day
		} else if some {
			certs = append(certs, now)
		}
		goes = some
	}
	if goes {
		certs[len(certs)-1].To = 100000
	}
	return certs
}

// thoughtDue is what a passage costs, as known on a day; -1 is ahead of all days.
func thoughtDue(f api.Files, p api.Passage, known int) int {
	if known < 0 || p.Known > known {
		return 0
	}
	_, figures, some := thought(f, p.Ship, p.Day, known)
	if !some || figures.Net.Lo < 0 {
		return 0
	}
	return p.Rate * figures.Net.Lo / 100
}

// thoughtPosts are the postings of a passage up to a day.
func thoughtPosts(f api.Files, p api.Passage, known int) []api.Post {
	var posts []api.Post
	for day := range known + 1 {
		if more := thoughtDue(f, p, day) - thoughtDue(f, p, day-1); more != 0 {
			posts = append(posts, api.Post{Known: day, Passage: p.Id, Amount: more})
		}
	}
	return posts
}

// less are files without the event at a place.
func less(f api.Files, at api.Place) api.Files {
	f.Events = slices.DeleteFunc(slices.Clone(f.Events), func(x api.Event) bool { return x.At == at })
	return f
}

// A maker makes files. Nothing in them is of a day from top on.
type maker struct {
	*rand.Rand
	top int
}

func newMaker(seed int64, top int) maker { return maker{rand.New(rand.NewSource(seed)), top} }

// pick is one of a few numbers.
func (m maker) pick(of ...int) int { return of[m.Intn(len(of))] }

func (m maker) ship() int { return m.pick(7, 7, 7, 7, 8) }

func (m maker) day() int { return m.Intn(m.top) }

// space makes one whose litres a reading tells fairly well; of some few what
// is told may be less than 0.
func (m maker) space() api.Space {
	s := spaceOf(1+m.Intn(2), 20*m.Intn(3), 20*m.Intn(3))
	if m.Intn(15) == 0 {
		s.Stations, s.Fair.Along = []int{0, 10, 40}, 100000
	}
	return s
}

// event makes an event of a kind.
func (m maker) event(kind int, at api.Place) api.Event {
	x := api.Event{Kind: kind, Ship: m.ship(), Day: m.day(), Known: m.day(), Room: 1 + m.Intn(2)}
	if m.Intn(2) == 0 {
		x.Known = x.Day
	}
	switch kind {
	case api.EvBuild:
		x.Num, x.Room, x.Day, x.Space = m.pick(1, 1, 2, 2, 3), 0, m.Intn(1+m.top/3), spaceOf(100, 100, 100)
	case api.EvRoom:
		x.Num, x.Opening, x.Crew, x.Room, x.Space = 1+m.Intn(2), m.Intn(2), m.Intn(2), 0, m.space()
		x.Day = m.Intn(1 + m.top/2)
	case api.EvKind:
		x.Num = 1 + m.Intn(2)
	case api.EvOpening, api.EvCrew:
		x.Num = m.Intn(2)
	case api.EvFlag:
		x.Num, x.Room = m.pick(1, 1, 2, 2, 3), 0
	case api.EvRead:
		value := 3000 + 20*m.Intn(4) + 5000*(m.Intn(8)/7) // some contradict others
		x.Reading = api.Reading{Station: m.Intn(2), Water: m.Intn(2), Value: value, Tolerance: m.Intn(30), Tape: 1 + m.Intn(2), Day: x.Day}
	case api.EvTape:
		lo := 10 * m.Intn(4)
		x.Room, x.Compare = 0, api.Compare{Tape: 1 + m.Intn(2), To: m.top, Lo: lo, Hi: lo + m.Intn(40)}
	case api.EvWithdraw:
		x.Ship, x.Day, x.Room, x.Of = 0, 0, 0, place(at.Office, m.Intn(at.Seq))
	}
	return put(x, at)
}

// events makes a list of at most so many events of two offices.
func (m maker) events(most int) []api.Event {
	var l []api.Event
	kinds := []int{1, 2, 2, 3, 4, 5, 6, 7, 7, 8, 8, 8, 8, 8, 8, 9, 9, 9, 10, 10, 10, 10}
	for _, office := range []int{0, 8} {
		for seq := range 1 + m.Intn(most/2) {
			kind := m.pick(kinds...)
			if seq < 3 {
				kind = []int{api.EvBuild, api.EvRoom, api.EvRead}[seq]
			}
			x := m.event(kind, place(office, seq))
			if seq < 3 { // so that there are ships, mostly, with a room that was read
				x.Ship, x.Day, x.Known = 7+office/8, seq*m.pick(0, 1, 1, 1), m.Intn(5)
			}
			switch seq {
			case 1:
				x.Space.Id = 1
			case 2:
				x.Room, x.Reading.Day = 1, x.Day
			}
			l = append(l, x)
		}
	}
	return l
}

// law makes one whose versions put rooms into other groups, and count them in
// other ways.
func (m maker) law(flag int) api.Law {
	lines := []string{}
	for from := m.Intn(3); from < m.top && len(lines) < 20; from += 1 + m.Intn(m.top) {
		lines = append(lines, fmt.Sprint("version ", from),
			fmt.Sprint("put ", m.Intn(2), " opening > 0"), fmt.Sprint("put ", m.Intn(3), " kind = 2"), "put 1",
			fmt.Sprint("gross 1 0 0 ", 100*m.Intn(3)), fmt.Sprint("gross 1 ", 3000+m.Intn(5000), " 100000 200"), "gross 2 0 0 100",
			fmt.Sprint("net 1 0 0 ", 100*m.Intn(3)), fmt.Sprint("net 2 0 ", 50000*(1-m.Intn(4)), " 50"))
	}
	return law(flag, lines...)
}

// files makes files with at most so many events.
func (m maker) files(most int) api.Files {
	f := api.Files{Events: m.events(most), Laws: []api.Law{m.law(1), m.law(2)}}
	if m.Intn(3) == 0 {
		f.Laws = append(f.Laws, simple(3))
	}
	id := 0
	for range 1 + m.Intn(5) {
		id += 1 + m.Intn(3)
		f.Passages = append(f.Passages, api.Passage{Id: id, Ship: m.ship(), Day: 2 + m.Intn(m.top-2), Known: m.Intn(5), Rate: m.pick(0, 1, 30, 100, 1000, 10000)})
	}
	return f
}

// lists tells files that were made at random, with a maker of more.
func lists(t *testing.T, seed int64, many int, tell func(m maker, f api.Files)) {
	t.Helper()
	m := newMaker(seed, 8)
	for range many {
		f := m.files(4 + m.Intn(20))
		mustHold(t, dues.Check(f), f)
		tell(m, f)
	}
}

// isDay reports whether Days is to have a day.
func isDay(t *testing.T, f api.Files, ship, day, known int) bool {
	t.Helper()
	days, e := life.Days(f.Events, ship, known)
	mustHold(t, e, f)
	starts := func(v api.Version) bool { return v.From == day }
	return slices.Contains(days, day) ||
		slices.ContainsFunc(f.Laws, func(l api.Law) bool { return slices.ContainsFunc(l.Code.Versions, starts) })
}

// isDate reports whether Dates is to have a day.
func isDate(f api.Files, ship, day int) bool {
	return slices.ContainsFunc(f.Events, func(x api.Event) bool {
		return x.Known == day && (x.Ship == ship || x.Kind == api.EvTape || x.Kind == api.EvWithdraw)
	}) || slices.ContainsFunc(f.Passages, func(p api.Passage) bool { return p.Known == day && p.Ship == ship })
}
