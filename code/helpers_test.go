package code_test

import (
	"fmt"
	"math/rand"
	"slices"
	"testing"

	"moorsom/api"
	"moorsom/code"
)

const exampleText = `code red
version 0
put 0 opening >= 500
put 2 kind = 2 crew > 0
put 1
gross 1 0 0 250
gross 1 1000 100000 300
gross 2 0 0 100
net 1 0 0 250
net 2 0 0 -100
version 100
put 1
gross 1 0 0 250
`

// example is the code of the chapter's examples.
func example() api.Code {
	old := api.Version{Puts: []api.Put{
		{Group: 0, Tests: []api.Test{{Of: api.OfOpening, How: api.AtLeast, Num: 500}}},
		{Group: 2, Tests: []api.Test{{Of: api.OfKind, How: api.Equal, Num: 2}, {Of: api.OfCrew, How: api.More, Num: 0}}},
		{Group: 1},
	}}
	old.Lines[api.Gross][0] = []api.Piece{{Rate: 250}, {From: 1000, Base: 100000, Rate: 300}}
	old.Lines[api.Gross][1] = []api.Piece{{Rate: 100}}
	old.Lines[api.Net][0] = []api.Piece{{Rate: 250}}
	old.Lines[api.Net][1] = []api.Piece{{Rate: -100}}
	next := api.Version{From: 100, Puts: []api.Put{{Group: 1}}}
	next.Lines[api.Gross][0] = []api.Piece{{Rate: 250}}
	return api.Code{Name: "red", Versions: []api.Version{old, next}}
}

// exampleRooms are those of the chapter's examples.
func exampleRooms() []api.Room {
	return []api.Room{
		{Id: 1, Kind: 1, Litres: api.Range{Lo: 900, Hi: 1100}},
		{Id: 2, Kind: 2, Crew: 5, Litres: api.Range{Lo: 50, Hi: 60}},
		{Id: 3, Kind: 1, Opening: 700, Litres: api.Range{Lo: 10, Hi: 10}},
	}
}

// text is a value as text, in which nil and empty lists are the same.
func text(a any) string { return fmt.Sprint(a) }

// same holds values against each other.
func same(a, b any) bool { return text(a) == text(b) }

// oneVersion is a code with only one version, from the day 0.
func oneVersion(v api.Version) api.Code { return api.Code{Name: "x", Versions: []api.Version{v}} }

// allGroups are as many rooms as there are groups, of the kinds 1 to 5.
func allGroups(litres ...api.Range) []api.Room {
	var l []api.Room
	for i, r := range litres {
		l = append(l, api.Room{Id: i + 1, Kind: i + 1, Litres: r})
	}
	return l
}

// byKind are puts into the groups whose numbers are the rooms' kinds.
func byKind() []api.Put {
	var l []api.Put
	for g := 1; g <= 5; g++ {
		l = append(l, api.Put{Group: g, Tests: []api.Test{{Of: api.OfKind, How: api.Equal, Num: g}}})
	}
	return l
}

// holds says whether a test is so, from what the chapter says.
func holds(t api.Test, r api.Room) bool {
	n := map[int]int{1: r.Kind, 2: r.Opening, 3: r.Crew}[t.Of]
	switch t.How {
	case 1:
		return n < t.Num
	case 2:
		return !(n > t.Num)
	case 3:
		return n-t.Num == 0
	case 4:
		return n-t.Num != 0
	case 5:
		return !(n < t.Num)
	}
	return n > t.Num
}

// putOf is the group of a room and its put, from what the chapter says.
func putOf(v api.Version, r api.Room) (group, put int) {
	for i, p := range v.Puts {
		if !slices.ContainsFunc(p.Tests, func(t api.Test) bool { return !holds(t, r) }) {
			return p.Group, i
		}
	}
	return 0, -1
}

// pieceOf is the index of the piece that has some litres; 0 if there are no pieces.
func pieceOf(pieces []api.Piece, n int) int {
	at := 0
	for i, p := range pieces {
		if p.From <= n {
			at = i
		}
	}
	return at
}

// valueOf is the value of a line, from what the chapter says.
func valueOf(pieces []api.Piece, n int) int {
	if len(pieces) == 0 {
		return 0
	}
	p := pieces[pieceOf(pieces, n)]
	return p.Base + p.Rate*n
}

// tonnageOf is the tonnage of litres of all groups, from what the chapter says.
func tonnageOf(v api.Version, formula int, litres [5]int) int {
	sum := 0
	for g, n := range litres {
		sum += valueOf(v.Lines[formula][g], n)
	}
	rest := (sum%1000 + 1000) % 1000
	return (sum - rest) / 1000
}

// litresOf are the litres of all groups, as ranges.
func litresOf(v api.Version, l []api.Room) [5]api.Range {
	var litres [5]api.Range
	for _, r := range l {
		if g, _ := putOf(v, r); g > 0 {
			litres[g-1].Lo += r.Litres.Lo
			litres[g-1].Hi += r.Litres.Hi
		}
	}
	return litres
}

// eachSum tells all litres that the groups can have if each room has any
// litres of its range; the same ones may be told more than once.
func eachSum(v api.Version, l []api.Room, tell func(litres [5]int)) {
	var choose func(i int, litres [5]int)
	choose = func(i int, litres [5]int) {
		if i == len(l) {
			tell(litres)
			return
		}
		g, _ := putOf(v, l[i])
		for n := l[i].Litres.Lo; n <= l[i].Litres.Hi; n++ {
			more := litres
			if g > 0 {
				more[g-1] += n
			}
			choose(i+1, more)
		}
	}
	choose(0, [5]int{})
}

// rangeOf is the range of the tonnages, found by trying all litres of the rooms.
func rangeOf(v api.Version, formula int, l []api.Room) api.Range {
	var found api.Range
	first := true
	eachSum(v, l, func(litres [5]int) {
		n := tonnageOf(v, formula, litres)
		if first {
			found = api.Range{Lo: n, Hi: n}
		}
		first = false
		found = api.Range{Lo: min(found.Lo, n), Hi: max(found.Hi, n)}
	})
	return found
}

// A maker makes codes and rooms. Thresholds are at most top, so that litres
// of about this size pass them often.
type maker struct {
	*rand.Rand
	top int
}

func newMaker(seed int64, top int) maker { return maker{rand.New(rand.NewSource(seed)), top} }

func (m maker) line() []api.Piece {
	var l []api.Piece
	from := 0
	for range m.Intn(5) {
		l = append(l, api.Piece{From: from, Base: m.Intn(9001) - 4500, Rate: m.Intn(1601) - 800})
		if m.Intn(4) == 0 {
			l[len(l)-1].Rate = 0
		}
		from += 1 + m.Intn(m.top)
	}
	return l
}

func (m maker) test() api.Test {
	t := api.Test{Of: 1 + m.Intn(3), How: 1 + m.Intn(6)}
	t.Num = m.Intn(4)
	return t
}

func (m maker) version(from int) api.Version {
	v := api.Version{From: from}
	for range m.Intn(7) {
		p := api.Put{Group: m.Intn(6)}
		for range m.Intn(3) {
			p.Tests = append(p.Tests, m.test())
		}
		v.Puts = append(v.Puts, p)
	}
	if m.Intn(4) > 0 {
		v.Puts = append(v.Puts, api.Put{Group: 1 + m.Intn(5)})
	}
	for f := range v.Lines {
		for g := range v.Lines[f] {
			v.Lines[f][g] = m.line()
		}
	}
	return v
}

// next makes a version that follows another one: it often shares much with it.
func (m maker) next(old api.Version, day int) api.Version {
	v := m.version(day)
	if m.Intn(3) > 0 {
		v.Lines = old.Lines
		v.Lines[m.Intn(2)][m.Intn(5)] = m.line()
	}
	if m.Intn(3) > 0 {
		v.Puts = old.Puts
	}
	return v
}

// code makes a code whose versions are from days less than 40.
func (m maker) code() api.Code {
	c := api.Code{Name: "c" + fmt.Sprint(m.Intn(1000))}
	old := m.version(m.Intn(3))
	for old.From < 40 && len(c.Versions) < 4 {
		c.Versions = append(c.Versions, old)
		old = m.next(old, old.From+1+m.Intn(15))
	}
	return c
}

// rooms makes at most so many rooms, whose ranges have at most width numbers.
func (m maker) rooms(most, width int) []api.Room {
	var l []api.Room
	id := 0
	for range m.Intn(most + 1) {
		id += 1 + m.Intn(5)
		r := api.Room{Id: id, Kind: 1 + m.Intn(4), Opening: m.Intn(4), Crew: m.Intn(4)}
		if m.Intn(3) == 0 {
			r.Litres.Lo = m.Intn(m.top)
		}
		r.Litres.Hi = r.Litres.Lo + m.Intn(width)
		l = append(l, r)
	}
	return l
}

// A history is a code with a day on which a version of it is in force, a
// formula, and rooms.
type history struct {
	c            api.Code
	v            api.Version
	day, formula int
	l            []api.Room
}

func (m maker) history(most, width int) history {
	h := history{c: m.code(), formula: m.Intn(2), l: m.rooms(most, width)}
	h.day = h.c.Versions[0].From + m.Intn(60)
	for _, v := range h.c.Versions {
		if v.From <= h.day {
			h.v = v
		}
	}
	return h
}

// judge asks for what is so without an error.
func (h history) judge(t *testing.T) api.Range {
	t.Helper()
	r, e := code.Judge(h.c, h.day, h.formula, h.l)
	if e != api.OK {
		t.Fatal(h, e)
	}
	return r
}

func (h history) ends(t *testing.T) (low, high api.End) {
	t.Helper()
	low, high, e := code.Ends(h.c, h.day, h.formula, h.l)
	if e != api.OK {
		t.Fatal(h, e)
	}
	return low, high
}

func (h history) cases(t *testing.T) []api.Case {
	t.Helper()
	l, e := code.Cases(h.c, h.day, h.formula, h.l)
	if e != api.OK {
		t.Fatal(h, e)
	}
	return l
}
