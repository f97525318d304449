package code_test

import (
	"math/big"
	"slices"
	"testing"

	"moorsom/api"
	"moorsom/code"
)

func TestValueExample(t *testing.T) {
	for litres, want := range map[int]int{0: 0, 1: 250, 999: 249750, 1000: 400000, 1001: 400300, 20000000000: 6000000100000} {
		if n, e := code.Value(example(), 0, api.Gross, 1, litres); e != api.OK || n != want {
			t.Error(litres, n, e)
		}
	}
	if n, e := code.Value(example(), 1, api.Net, 1, 500); e != api.OK || n != 0 {
		t.Error("a line without pieces", n, e)
	}
	if n, e := code.Value(example(), 0, api.Net, 2, 500); e != api.OK || n != -50000 {
		t.Error(n, e)
	}
	if n, e := code.Tonnage(example(), 0, api.Gross, [5]int{1000, 50}); e != api.OK || n != 405 {
		t.Error(n, e)
	}
}

func TestValue(t *testing.T) {
	m := newMaker(6, 30)
	for range 3000 {
		c := m.code()
		i, f, g, n := m.Intn(len(c.Versions)), m.Intn(2), 1+m.Intn(5), m.Intn(120)
		if got, e := code.Value(c, i, f, g, n); e != api.OK || got != valueOf(c.Versions[i].Lines[f][g-1], n) {
			t.Fatal(c, i, f, g, n, got, e)
		}
		litres := [5]int{m.Intn(100), m.Intn(100), m.Intn(100), m.Intn(100), m.Intn(100)}
		if got, e := code.Tonnage(c, i, f, litres); e != api.OK || got != tonnageOf(c.Versions[i], f, litres) {
			t.Fatal(c, i, f, litres, got, e)
		}
	}
}

// TestTonnageRounds: down, below 0 too, and only the sum.
func TestTonnageRounds(t *testing.T) {
	for _, c := range []struct{ one, two, want int }{
		{0, 0, 0}, {999, 0, 0}, {1000, 0, 1}, {999, 1, 1}, {999, 2, 1}, {500, 1499, 1}, {-1, 0, -1}, {-999, 0, -1}, {-1000, 0, -1},
		{-1001, 0, -2}, {-999, -1, -1}, {-999, -2, -2}, {-1, 1, 0}, {1500, -600, 0}, {600, -1500, -1}, {-1500, 501, -1}, {-1500, 500, -1}, {-1501, 500, -2},
	} {
		var v api.Version
		v.Lines[api.Net][1] = []api.Piece{{Base: c.one}}
		v.Lines[api.Net][4] = []api.Piece{{Base: c.two}}
		if n, e := code.Tonnage(oneVersion(v), 0, api.Net, [5]int{}); e != api.OK || n != c.want {
			t.Error(c, n, e)
		}
		if n, e := code.Tonnage(oneVersion(v), 0, api.Gross, [5]int{}); e != api.OK || n != 0 {
			t.Error(c, n, e)
		}
	}
}

// TestGreatest: no number is too great, as long as all are in their limits.
func TestGreatest(t *testing.T) {
	for _, sign := range []int{1, -1} {
		var v api.Version
		v.Puts = byKind()
		want := new(big.Int)
		for g := range 5 {
			v.Lines[api.Gross][g] = []api.Piece{{}, {From: 20000000000, Base: sign * 1000000000000, Rate: sign * 1000000}}
			one := new(big.Int).Mul(big.NewInt(20000000000), big.NewInt(int64(sign)*1000000))
			want.Add(want, one.Add(one, big.NewInt(int64(sign)*1000000000000)))
		}
		want.Div(want, big.NewInt(1000))
		litres := [5]int{20000000000, 20000000000, 20000000000, 20000000000, 20000000000}
		n, e := code.Tonnage(oneVersion(v), 0, api.Gross, litres)
		if e != api.OK || big.NewInt(int64(n)).Cmp(want) != 0 {
			t.Error(n, want, e)
		}
	}
	var v api.Version
	v.Puts = []api.Put{{Group: 1}}
	v.Lines[api.Gross][0] = []api.Piece{{Rate: -1000000}, {From: 20000000000, Base: 1000000000000, Rate: 1000000}}
	r, e := code.Judge(oneVersion(v), 0, api.Gross, many(20))
	if e != api.OK || r != (api.Range{Lo: -19999999999000, Hi: 20001000000000}) {
		t.Error(r, e)
	}
}

func TestJudgeExample(t *testing.T) {
	for _, c := range []struct {
		day, formula int
		want         api.Range
	}{
		{50, api.Gross, api.Range{Lo: 230, Hi: 436}}, {50, api.Net, api.Range{Lo: 219, Hi: 270}}, {99, api.Gross, api.Range{Lo: 230, Hi: 436}},
		{100, api.Gross, api.Range{Lo: 240, Hi: 292}}, {100, api.Net, api.Range{}},
	} {
		if r, e := code.Judge(example(), c.day, c.formula, exampleRooms()); e != api.OK || r != c.want {
			t.Error(c, r, e)
		}
	}
	low, high, e := code.Ends(example(), 50, api.Gross, exampleRooms())
	if e != api.OK || low != (api.End{Tonnage: 230, Litres: [5]int{900, 50}}) || high != (api.End{Tonnage: 436, Litres: [5]int{1100, 60}}) {
		t.Error(low, high, e)
	}
	low, high, e = code.Ends(example(), 50, api.Net, exampleRooms())
	if e != api.OK || low != (api.End{Tonnage: 219, Litres: [5]int{900, 60}}) || high != (api.End{Tonnage: 270, Litres: [5]int{1100, 50}}) {
		t.Error(low, high, e)
	}
}

// TestNoRooms: groups without rooms have no litres, but the values of their
// lines at none.
func TestNoRooms(t *testing.T) {
	var v api.Version
	v.Lines[api.Gross][0] = []api.Piece{{Base: 5500, Rate: -9}, {From: 1, Base: -90000}}
	v.Lines[api.Gross][3] = []api.Piece{{Base: 600, Rate: 9}}
	r, e := code.Judge(oneVersion(v), 7, api.Gross, nil)
	if e != api.OK || r != (api.Range{Lo: 6, Hi: 6}) {
		t.Error(r, e)
	}
}

// firstEnds are the ends by trying all litres of each group, one by one.
func firstEnds(h history) (low, high api.End) {
	for g, litres := range litresOf(h.v, h.l) {
		pieces := h.v.Lines[h.formula][g]
		low.Litres[g], high.Litres[g] = litres.Lo, litres.Lo
		for n := litres.Lo; n <= litres.Hi; n++ {
			if valueOf(pieces, n) < valueOf(pieces, low.Litres[g]) {
				low.Litres[g] = n
			}
			if valueOf(pieces, n) > valueOf(pieces, high.Litres[g]) {
				high.Litres[g] = n
			}
		}
	}
	low.Tonnage = tonnageOf(h.v, h.formula, low.Litres)
	high.Tonnage = tonnageOf(h.v, h.formula, high.Litres)
	return low, high
}

// TestAllLitres is P4.2: the range of small rooms is that of all their litres,
// and the ends are litres of them.
func TestAllLitres(t *testing.T) {
	m := newMaker(42, 12)
	wide, inner := 0, 0
	for range 4000 {
		h := m.history(3, 9)
		r := h.judge(t)
		if want := rangeOf(h.v, h.formula, h.l); r != want {
			t.Fatal(h, r, want)
		}
		low, high := h.ends(t)
		if l, u := firstEnds(h); low != l || high != u {
			t.Fatal(h, low, high, l, u)
		}
		if low.Tonnage != r.Lo || high.Tonnage != r.Hi || code.CheckEnds(h.c, h.day, h.formula, h.l, [2]api.End{low, high}) != api.OK {
			t.Fatal(h, low, high)
		}
		isLow, isHigh := false, false
		eachSum(h.v, h.l, func(litres [5]int) {
			isLow = isLow || litres == low.Litres
			isHigh = isHigh || litres == high.Litres
		})
		if !isLow || !isHigh {
			t.Fatal("ends of no litres", h, low, high)
		}
		if r.Lo < r.Hi {
			wide++
		}
		for g, litres := range litresOf(h.v, h.l) {
			if n := high.Litres[g]; litres.Lo < n && n < litres.Hi {
				inner++
			}
		}
	}
	if wide < 1000 || inner < 100 {
		t.Error("too few ranges", wide, inner)
	}
}

// TestSomeLitres is P4.2 for rooms of any size.
func TestSomeLitres(t *testing.T) {
	m := newMaker(43, 5000)
	for range 1500 {
		h := m.history(20, 8000)
		r := h.judge(t)
		low, high := h.ends(t)
		if l, u := firstEndsOfPieces(h); low != l || high != u {
			t.Fatal(h, low, high, l, u)
		}
		for range 20 {
			litres := m.litres(h)
			if n := tonnageOf(h.v, h.formula, litres); n < r.Lo || n > r.Hi {
				t.Fatal(h, litres, n, r)
			}
		}
	}
}

// litres returns litres of the groups that the rooms of a history can have.
func (m maker) litres(h history) [5]int {
	var litres [5]int
	for _, r := range h.l {
		if g, _ := putOf(h.v, r); g > 0 {
			litres[g-1] += r.Litres.Lo + m.Intn(r.Litres.Hi-r.Litres.Lo+1)
		}
	}
	return litres
}

// firstEndsOfPieces are the ends by trying the litres at which lines can turn.
func firstEndsOfPieces(h history) (low, high api.End) {
	for g, litres := range litresOf(h.v, h.l) {
		pieces := h.v.Lines[h.formula][g]
		tried := []int{litres.Lo, litres.Hi}
		for _, p := range pieces {
			for _, n := range []int{p.From - 1, p.From} {
				if litres.Lo <= n && n <= litres.Hi {
					tried = append(tried, n)
				}
			}
		}
		slices.Sort(tried)
		low.Litres[g] = slices.MinFunc(tried, func(a, b int) int { return valueOf(pieces, a) - valueOf(pieces, b) })
		high.Litres[g] = slices.MaxFunc(tried, func(a, b int) int { return valueOf(pieces, a) - valueOf(pieces, b) })
	}
	low.Tonnage = tonnageOf(h.v, h.formula, low.Litres)
	high.Tonnage = tonnageOf(h.v, h.formula, high.Litres)
	return low, high
}

// TestEndsFirst: of equal values the first one is meant.
func TestEndsFirst(t *testing.T) {
	for _, c := range []struct {
		pieces    []api.Piece
		low, high int
	}{
		{nil, 10, 10},
		{[]api.Piece{{Base: 5}}, 10, 10},
		{[]api.Piece{{Rate: 1}}, 10, 30},
		{[]api.Piece{{Rate: -1}}, 30, 10},
		{[]api.Piece{{Base: 5}, {From: 20, Base: 5}}, 10, 10},
		{[]api.Piece{{Base: 5}, {From: 20, Base: 4}, {From: 25, Base: 5}}, 20, 10},
		{[]api.Piece{{Base: 5}, {From: 20, Base: 4}, {From: 25, Base: 4}}, 20, 10},
		{[]api.Piece{{Base: 5}, {From: 20, Base: 6}, {From: 25, Base: 6}}, 10, 20},
		{[]api.Piece{{Rate: 1}, {From: 20, Rate: 1, Base: -10}, {From: 29, Base: 19}}, 10, 19},
		{[]api.Piece{{Rate: -1}, {From: 20, Rate: -1, Base: 10}, {From: 30, Base: -19}}, 19, 10},
		{[]api.Piece{{Rate: 1}, {From: 30, Base: 100}}, 10, 30},
		{[]api.Piece{{Rate: 1}, {From: 31, Base: 100}}, 10, 30},
		{[]api.Piece{{Rate: 1}, {From: 10, Base: 100}}, 10, 10},
		{[]api.Piece{{Base: 1000}, {From: 11, Base: 100}}, 11, 10},
	} {
		v := api.Version{Puts: []api.Put{{Group: 3}}}
		v.Lines[api.Net][2] = c.pieces
		h := history{c: oneVersion(v), v: v, formula: api.Net, l: []api.Room{{Id: 1, Kind: 1, Litres: api.Range{Lo: 10, Hi: 30}}}}
		low, high := h.ends(t)
		if low.Litres != [5]int{2: c.low} || high.Litres != [5]int{2: c.high} {
			t.Error(c, low, high)
		}
	}
}

// TestCheckEnds: ends are accepted exactly if their litres are those of the
// rooms, and their tonnages the least and the greatest one.
func TestCheckEnds(t *testing.T) {
	m := newMaker(44, 12)
	accepted, others := 0, 0
	for range 4000 {
		h := m.history(3, 9)
		low, high := h.ends(t)
		for range 5 {
			ends := [2]api.End{low, high}
			end := &ends[m.Intn(2)]
			if m.Intn(3) > 0 {
				end.Litres = m.litres(h)
				end.Tonnage = tonnageOf(h.v, h.formula, end.Litres)
			}
			switch m.Intn(4) {
			case 0:
				end.Litres[m.Intn(5)] += m.Intn(5) - 2
			case 1:
				end.Tonnage += m.Intn(3) - 1
			}
			want := api.OK
			for i, tonnage := range []int{low.Tonnage, high.Tonnage} {
				if ends[i].Tonnage != tonnage || tonnageOf(h.v, h.formula, ends[i].Litres) != tonnage {
					want = api.ErrEnds
				}
				for g, litres := range litresOf(h.v, h.l) {
					if n := ends[i].Litres[g]; n < litres.Lo || n > litres.Hi {
						want = api.ErrEnds
					}
				}
			}
			if e := code.CheckEnds(h.c, h.day, h.formula, h.l, ends); e != want {
				t.Fatal(h, ends, e, want)
			}
			if want == api.OK {
				accepted++
			}
			if want == api.OK && ends != [2]api.End{low, high} {
				others++
			}
		}
	}
	if accepted < 1000 || others < 200 {
		t.Error("too few are accepted", accepted, others)
	}
	low, high, _ := code.Ends(example(), 50, api.Gross, exampleRooms())
	for _, ends := range [][2]api.End{{}, {high, low}, {low, low}, {high, high}, {low}, {1: high}} {
		if e := code.CheckEnds(example(), 50, api.Gross, exampleRooms(), ends); e != api.ErrEnds {
			t.Error(ends, e)
		}
	}
}

// TestNarrower is P4.6: with narrower ranges of rooms so is the one of tonnages.
func TestNarrower(t *testing.T) {
	m := newMaker(48, 1000)
	for range 2000 {
		h := m.history(8, 3000)
		r := h.judge(t)
		for i := range h.l {
			litres := &h.l[i].Litres
			litres.Lo += m.Intn(litres.Hi - litres.Lo + 1)
			litres.Hi -= m.Intn(litres.Hi - litres.Lo + 1)
		}
		if n := h.judge(t); n.Lo < r.Lo || n.Hi > r.Hi {
			t.Fatal(h, n, r)
		}
	}
}

// with is a copy of rooms of which one has only these litres.
func with(l []api.Room, i, litres int) []api.Room {
	l = slices.Clone(l)
	l[i].Litres = api.Range{Lo: litres, Hi: litres}
	return l
}

// TestRests: all rooms, and no others, with whose litres alone the range is
// another one.
func TestRests(t *testing.T) {
	l, e := code.Rests(example(), 50, api.Gross, exampleRooms())
	if e != api.OK || !slices.Equal(l, []int{1, 2}) {
		t.Error(l, e)
	}
	m := newMaker(49, 12)
	in, out := 0, 0
	for range 3000 {
		h := m.history(4, 6)
		all := rangeOf(h.v, h.formula, h.l)
		var want []int
		for i, r := range h.l {
			if rangeOf(h.v, h.formula, with(h.l, i, r.Litres.Lo)) != all || rangeOf(h.v, h.formula, with(h.l, i, r.Litres.Hi)) != all {
				want = append(want, r.Id)
			}
		}
		if l, e := code.Rests(h.c, h.day, h.formula, h.l); e != api.OK || !slices.Equal(l, want) {
			t.Fatal(h, l, want, e)
		}
		in += len(want)
		out += len(h.l) - len(want)
	}
	if in < 500 || out < 500 {
		t.Error(in, out)
	}
}

// TestRestsOneEnd: a room counts also if only its Lo or only its Hi alone is
// told of another range.
func TestRestsOneEnd(t *testing.T) {
	var v api.Version
	v.Puts = byKind()
	v.Lines[api.Gross][0] = []api.Piece{{}, {From: 6, Base: 5000}, {From: 7}}   // at 5 or 7 alone it is another one
	v.Lines[api.Gross][1] = []api.Piece{{}, {From: 1000000000, Base: 100000}}   // only its Hi is
	v.Lines[api.Gross][2] = []api.Piece{{Base: 7000}, {From: 2}, {From: 3}}     // only its Lo is
	v.Lines[api.Gross][3] = []api.Piece{{Rate: 1}}                              // too few litres for a ton
	v.Lines[api.Gross][4] = []api.Piece{{}, {From: 4, Base: 500}, {From: 1000}} // half a ton
	l := allGroups(api.Range{Lo: 5, Hi: 7}, api.Range{Lo: 0, Hi: 1000000000}, api.Range{Lo: 1, Hi: 2}, api.Range{Lo: 0, Hi: 99}, api.Range{Lo: 0, Hi: 10})
	if ids, e := code.Rests(oneVersion(v), 0, api.Gross, l); e != api.OK || !slices.Equal(ids, []int{1, 2, 3}) {
		t.Error(ids, e)
	}
	if ids, e := code.Rests(oneVersion(v), 0, api.Net, l); e != api.OK || len(ids) != 0 {
		t.Error(ids, e)
	}
}

func TestDays(t *testing.T) {
	l, e := code.Days(example(), api.Gross, exampleRooms())
	if e != api.OK || !slices.Equal(l, []int{100}) {
		t.Error(l, e)
	}
	if l, e := code.Days(example(), api.Gross, nil); e != api.OK || len(l) != 0 {
		t.Error(l, e)
	}
	m := newMaker(50, 30)
	counts := map[int]int{}
	for range 600 {
		h := m.history(3, 4)
		var want []int
		for day := h.c.Versions[0].From + 1; day < 60; day++ {
			now, e := code.Judge(h.c, day, h.formula, h.l)
			old, f := code.Judge(h.c, day-1, h.formula, h.l)
			if e != api.OK || f != api.OK {
				t.Fatal(h, e, f)
			}
			if now != old {
				want = append(want, day)
			}
		}
		if l, e := code.Days(h.c, h.formula, h.l); e != api.OK || !slices.Equal(l, want) {
			t.Fatal(h, l, want, e)
		}
		counts[len(want)]++
	}
	if counts[0] < 15 || counts[1] < 30 || counts[3] < 30 {
		t.Error(counts)
	}
}

// TestDaysBothEnds: a day is one also if only one end changes.
func TestDaysBothEnds(t *testing.T) {
	base := func(day, lo, hi int) api.Version {
		v := api.Version{From: day, Puts: []api.Put{{Group: 1}}}
		v.Lines[api.Net][0] = []api.Piece{{Base: 1000 * lo}, {From: 5, Base: 1000 * hi}}
		return v
	}
	c := api.Code{Name: "x", Versions: []api.Version{base(3, 1, 2), base(4, 1, 2), base(9, 0, 2), base(10, 0, 2), base(20, 0, 3), base(100000, 1, 2)}}
	l := []api.Room{{Id: 1, Kind: 1, Litres: api.Range{Lo: 4, Hi: 5}}}
	if days, e := code.Days(c, api.Net, l); e != api.OK || !slices.Equal(days, []int{9, 20, 100000}) {
		t.Error(days, e)
	}
}
