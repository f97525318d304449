package code_test

import (
	"maps"
	"slices"
	"testing"

	"moorsom/api"
	"moorsom/code"
)

func TestCasesExample(t *testing.T) {
	l, e := code.Cases(example(), 50, api.Gross, exampleRooms())
	want := []api.Case{
		{Litres: [5]api.Range{{Lo: 900, Hi: 999}, {Lo: 50, Hi: 60}}, Tonnages: api.Range{Lo: 230, Hi: 255}},
		{Pieces: [5]int{1}, Litres: [5]api.Range{{Lo: 1000, Hi: 1100}, {Lo: 50, Hi: 60}}, Tonnages: api.Range{Lo: 405, Hi: 436}},
	}
	if e != api.OK || !slices.Equal(l, want) {
		t.Error(l, e)
	}
	if r, e := code.CheckCases(example(), 50, api.Gross, exampleRooms(), want); e != api.OK || r != (api.Range{Lo: 230, Hi: 436}) {
		t.Error(r, e)
	}
	opens, e := code.Opens(example(), 50, api.Gross, exampleRooms())
	if e != api.OK || !slices.Equal(opens, []api.Open{{Group: 1, Piece: 1, From: 1000}}) {
		t.Error(opens, e)
	}
}

// piecesOf are the pieces that have these litres.
func piecesOf(h history, litres [5]int) [5]int {
	var pieces [5]int
	for g, n := range litres {
		pieces[g] = pieceOf(h.v.Lines[h.formula][g], n)
	}
	return pieces
}

// join widens a range by a number.
func join(r api.Range, n int) api.Range { return api.Range{Lo: min(r.Lo, n), Hi: max(r.Hi, n)} }

// allCases are the cases, found by trying all litres of the rooms.
func allCases(h history) []api.Case {
	found := map[[5]int]api.Case{}
	eachSum(h.v, h.l, func(litres [5]int) {
		pieces, n := piecesOf(h, litres), tonnageOf(h.v, h.formula, litres)
		c, known := found[pieces]
		if !known {
			c.Pieces, c.Tonnages = pieces, api.Range{Lo: n, Hi: n}
			for g, n := range litres {
				c.Litres[g] = api.Range{Lo: n, Hi: n}
			}
		}
		for g, n := range litres {
			c.Litres[g] = join(c.Litres[g], n)
		}
		c.Tonnages = join(c.Tonnages, n)
		found[pieces] = c
	})
	l := slices.Collect(maps.Values(found))
	slices.SortFunc(l, func(a, b api.Case) int { return slices.Compare(a.Pieces[:], b.Pieces[:]) })
	return l
}

// openOf are the open thresholds of litres, from what the chapter says.
func openOf(h history, litres [5]api.Range) []api.Open {
	var l []api.Open
	for g, r := range litres {
		for i, p := range h.v.Lines[h.formula][g] {
			if i >= 1 && p.From > r.Lo && p.From <= r.Hi {
				l = append(l, api.Open{Group: g + 1, Piece: i, From: p.From})
			}
		}
	}
	return l
}

// TestAllCases is P4.3 and P4.4 for small rooms, of which all litres are tried.
func TestAllCases(t *testing.T) {
	m := newMaker(41, 5)
	counts := map[int]int{}
	for range 4000 {
		h := m.history(4, 7)
		l := h.cases(t)
		if want := allCases(h); !slices.Equal(l, want) {
			t.Fatal(h, l, want)
		}
		opens, e := code.Opens(h.c, h.day, h.formula, h.l)
		if e != api.OK || !slices.Equal(opens, openOf(h, litresOf(h.v, h.l))) || (len(opens) == 0) != (len(l) == 1) {
			t.Fatal(h, opens, e)
		}
		for _, c := range l {
			if open := openOf(h, c.Litres); len(open) > 0 {
				t.Fatal(h, c, open)
			}
		}
		if r, e := code.CheckCases(h.c, h.day, h.formula, h.l, l); e != api.OK || r != h.judge(t) {
			t.Fatal(h, r, e)
		}
		counts[min(len(l), 5)]++
	}
	if counts[1] < 300 || counts[2] < 300 || counts[4] < 100 || counts[5] < 30 {
		t.Error(counts)
	}
}

// TestSomeCases is P4.3 and P4.4 for rooms of any size.
func TestSomeCases(t *testing.T) {
	m := newMaker(51, 4000)
	for range 400 {
		h := m.history(12, 3000)
		l, e := code.Cases(h.c, h.day, h.formula, h.l)
		if e == api.ErrLong {
			continue
		}
		if e != api.OK || !slices.IsSortedFunc(l, func(a, b api.Case) int { return slices.Compare(a.Pieces[:], b.Pieces[:]) }) {
			t.Fatal(h, e)
		}
		for range 20 {
			litres := m.litres(h)
			hit := 0
			for _, c := range l {
				if leaves(c, litres) {
					hit++
					if n := tonnageOf(h.v, h.formula, litres); c.Pieces != piecesOf(h, litres) || n < c.Tonnages.Lo || n > c.Tonnages.Hi {
						t.Fatal(h, c, litres)
					}
				}
			}
			if hit != 1 {
				t.Fatal(h, litres, hit)
			}
		}
		all := l[0].Tonnages
		for _, c := range l {
			if c.Tonnages != within(h, c) || len(openOf(h, c.Litres)) > 0 {
				t.Fatal(h, c)
			}
			all = join(join(all, c.Tonnages.Lo), c.Tonnages.Hi)
		}
		if all != h.judge(t) {
			t.Fatal(h, all)
		}
	}
}

// leaves says whether a case leaves these litres.
func leaves(c api.Case, litres [5]int) bool {
	for g, n := range litres {
		if n < c.Litres[g].Lo || n > c.Litres[g].Hi {
			return false
		}
	}
	return true
}

// within is the range of the tonnages of a case: within a piece a line is
// least and greatest at its ends.
func within(h history, c api.Case) api.Range {
	var low, high [5]int
	for g, r := range c.Litres {
		pieces := h.v.Lines[h.formula][g]
		low[g], high[g] = r.Lo, r.Hi
		if valueOf(pieces, r.Lo) > valueOf(pieces, r.Hi) {
			low[g], high[g] = r.Hi, r.Lo
		}
	}
	return api.Range{Lo: tonnageOf(h.v, h.formula, low), Hi: tonnageOf(h.v, h.formula, high)}
}

// wide is a history whose groups have as many cases as is said.
func wide(counts ...int) history {
	v := api.Version{Puts: byKind()}
	var ranges []api.Range
	for g, n := range counts {
		v.Lines[api.Gross][g] = steps(8) // from 0, 10, .., 70 on
		ranges = append(ranges, api.Range{Lo: 70 - 10*(n-1), Hi: 70})
	}
	return history{c: oneVersion(v), v: v, l: allGroups(ranges...)}
}

// TestManyCases: 512 are not too many, but 525 are.
func TestManyCases(t *testing.T) {
	for _, h := range []history{wide(8, 8, 8), wide(4, 4, 4, 4, 2), wide(1, 8, 8, 1, 8), wide(7, 8, 1, 3, 3)} {
		l := h.cases(t)
		if want := allCasesOfPieces(h); !slices.Equal(l, want) {
			t.Error(len(l), len(want))
		}
		if r, e := code.CheckCases(h.c, 0, api.Gross, h.l, l); e != api.OK || r != h.judge(t) {
			t.Error(r, e)
		}
	}
	for _, h := range []history{wide(3, 5, 5, 7), wide(8, 8, 8, 2), wide(8, 8, 8, 8, 8)} {
		if l, e := code.Cases(h.c, 0, api.Gross, h.l); e != api.ErrLong || len(l) != 0 {
			t.Error(len(l), e)
		}
		for _, l := range [][]api.Case{nil, {{}}, wide(8, 8, 8).cases(t)} {
			if r, e := code.CheckCases(h.c, 0, api.Gross, h.l, l); e != api.ErrLong || r != (api.Range{}) {
				t.Error(r, e)
			}
		}
		if l, e := code.Opens(h.c, 0, api.Gross, h.l); e != api.OK || !slices.Equal(l, openOf(h, litresOf(h.v, h.l))) {
			t.Error(l, e)
		}
	}
}

// allCasesOfPieces are the cases, by trying all choices of pieces.
func allCasesOfPieces(h history) []api.Case {
	var l []api.Case
	var choose func(g int, c api.Case)
	choose = func(g int, c api.Case) {
		if g == 5 {
			c.Tonnages = within(h, c)
			l = append(l, c)
			return
		}
		litres := litresOf(h.v, h.l)[g]
		pieces := h.v.Lines[h.formula][g]
		for i := range max(1, len(pieces)) {
			c.Pieces[g], c.Litres[g] = i, litres
			if len(pieces) > 0 {
				c.Litres[g].Lo = max(litres.Lo, pieces[i].From)
			}
			if i+1 < len(pieces) {
				c.Litres[g].Hi = min(litres.Hi, pieces[i+1].From-1)
			}
			if c.Litres[g].Lo <= c.Litres[g].Hi {
				choose(g+1, c)
			}
		}
	}
	choose(0, api.Case{})
	return l
}

// TestThresholds: a threshold at the least litres is not open, one at the
// greatest is.
func TestThresholds(t *testing.T) {
	v := api.Version{Puts: byKind()}
	v.Lines[api.Net][3] = steps(8)
	for _, c := range []struct {
		litres       api.Range
		first, cases int
		opens        []int
	}{
		{api.Range{Lo: 0, Hi: 9}, 0, 1, nil}, {api.Range{Lo: 0, Hi: 10}, 0, 2, []int{1}}, {api.Range{Lo: 9, Hi: 10}, 0, 2, []int{1}},
		{api.Range{Lo: 10, Hi: 10}, 1, 1, nil}, {api.Range{Lo: 10, Hi: 19}, 1, 1, nil}, {api.Range{Lo: 10, Hi: 30}, 1, 3, []int{2, 3}},
		{api.Range{Lo: 70, Hi: 900}, 7, 1, nil}, {api.Range{Lo: 69, Hi: 900}, 6, 2, []int{7}}, {api.Range{}, 0, 1, nil},
	} {
		h := history{c: oneVersion(v), v: v, formula: api.Net, l: []api.Room{{Id: 1, Kind: 4, Litres: c.litres}}}
		l := h.cases(t)
		if len(l) != c.cases || l[0].Pieces != [5]int{3: c.first} {
			t.Error(c, l)
		}
		opens, e := code.Opens(h.c, 0, api.Net, h.l)
		var pieces []int
		for _, o := range opens {
			pieces = append(pieces, o.Piece)
			if o.Group != 4 || o.From != 10*o.Piece {
				t.Error(c, o)
			}
		}
		if e != api.OK || !slices.Equal(pieces, c.opens) {
			t.Error(c, opens, e)
		}
	}
}

// TestNoPieces: a group whose line has no pieces has the piece 0, with all litres.
func TestNoPieces(t *testing.T) {
	h := history{c: oneVersion(api.Version{Puts: byKind()}), l: allGroups(api.Range{Lo: 1, Hi: 5}, api.Range{Lo: 7, Hi: 9})}
	want := []api.Case{{Litres: [5]api.Range{{Lo: 1, Hi: 5}, {Lo: 7, Hi: 9}}}}
	if l := h.cases(t); !slices.Equal(l, want) {
		t.Error(l)
	}
}

// TestWrongCases: cases that are not those of the rooms show nothing.
func TestWrongCases(t *testing.T) {
	m := newMaker(52, 10)
	for range 500 {
		h := m.history(4, 12)
		right := h.cases(t)
		var wrong [][]api.Case
		spoil := func(change func(c *api.Case)) {
			l := slices.Clone(right)
			change(&l[m.Intn(len(l))])
			wrong = append(wrong, l)
		}
		g := m.Intn(5)
		spoil(func(c *api.Case) { c.Pieces[g]++ })
		spoil(func(c *api.Case) { c.Litres[g].Lo-- })
		spoil(func(c *api.Case) { c.Litres[g].Hi++ })
		spoil(func(c *api.Case) { c.Tonnages.Lo++ })
		spoil(func(c *api.Case) { c.Tonnages.Hi++ })
		i := m.Intn(len(right))
		wrong = append(wrong, nil, append(slices.Clone(right), api.Case{Pieces: [5]int{9}}), slices.Delete(slices.Clone(right), i, i+1))
		for _, l := range wrong {
			if r, e := code.CheckCases(h.c, h.day, h.formula, h.l, l); e != api.ErrCase || r != (api.Range{}) {
				t.Fatal(h, l, r, e)
			}
		}
	}
}
