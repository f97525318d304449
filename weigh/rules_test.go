package weigh_test

import (
	"math"
	"math/rand"
	"slices"
	"testing"

	"moorsom/api"
	"moorsom/weigh"
)

// spoil writes into all the memory of a list, also behind its end.
func spoil(l []int) {
	l = l[:cap(l)]
	for i := range l {
		l[i] = -77
	}
}

func TestResultsShareNoMemory(t *testing.T) {
	l := []int{0, 10, 20, 50, 90}
	kept := slices.Clone(l)

	first, second, _ := weigh.Part(l, 2)
	spoil(first)
	if !slices.Equal(second, []int{20, 50, 90}) || !slices.Equal(l, kept) {
		t.Error("Part", second, l)
	}
	spoil(second)
	if !slices.Equal(l, kept) {
		t.Error("Part", l)
	}

	long := []int{0, 10, 20, 50, 90}
	a, b := long[:3], []int{20, 50}
	joined, _ := weigh.Join(a, b)
	if !slices.Equal(long, kept) {
		t.Error("Join writes behind its argument", long)
	}
	spoil(joined)
	if !slices.Equal(long, kept) || !slices.Equal(b, []int{20, 50}) {
		t.Error("Join", long, b)
	}

	weights, _ := weigh.Weights(l)
	spoil(weights)
	if w, _ := weigh.Weights(l); !slices.Equal(l, kept) || !slices.Equal(w, []int{120, 480, 660, 1260, 720}) {
		t.Error("Weights", l, w)
	}
	groups, _ := weigh.Groups(l)
	groups[0].From = 9
	if g, _ := weigh.Groups(l); g[0].From != 0 {
		t.Error("Groups", g)
	}

	stations, waters := []int{0, 5}, []int{0, 3}
	grid, _ := weigh.Grid(stations, waters)
	spoil(grid[0])
	if !slices.Equal(grid[1], []int{4860, 4860}) || !slices.Equal(stations, []int{0, 5}) || !slices.Equal(waters, []int{0, 3}) {
		t.Error("Grid", grid, stations, waters)
	}
}

func TestTablesOfParseShareNoMemory(t *testing.T) {
	read := func() api.Table {
		x, _, _ := weigh.Parse(smallText)
		return x
	}
	x := read()
	for i, lists := range [][]*[]int{
		{&x.Stations, &x.Waters, &x.Halves[0], &x.Halves[1]},
		{&x.Waters, &x.Stations, &x.Halves[0], &x.Halves[1]},
		{&x.Halves[0], &x.Stations, &x.Waters, &x.Halves[1]},
		{&x.Halves[1], &x.Stations, &x.Waters, &x.Halves[0]},
	} {
		before := make([][]int, 0, 3)
		for _, other := range lists[1:] {
			before = append(before, slices.Clone(*other))
		}
		kept := slices.Clone(*lists[0])
		spoil(*lists[0])
		for j, other := range lists[1:] {
			if !slices.Equal(*other, before[j]) {
				t.Error("list", i, "shares memory with another one")
			}
		}
		copy(*lists[0], kept)
	}
	if !sameTable(read(), smallTable) {
		t.Error("Parse keeps what it returned")
	}
}

func TestArgumentsAreNotChanged(t *testing.T) {
	l, o := []int{0, 10, 40}, []int{3, 4, 5}
	weigh.Area(l, o)
	weigh.Moment(l, o, 7)
	weigh.Centre(l, o)
	weigh.CheckPlaces(l)
	weigh.Groups(l)
	weigh.Weights(l)
	if !slices.Equal(l, []int{0, 10, 40}) || !slices.Equal(o, []int{3, 4, 5}) {
		t.Error(l, o)
	}
	x := chosen([]int{0, 10, 40}, []int{0, 30, 40}, 5)
	y := chosen([]int{0, 10, 40}, []int{0, 30, 40}, 5)
	weigh.CheckTable(x)
	weigh.Grid(x.Stations, x.Waters)
	weigh.Volume(x)
	weigh.Litres(x)
	weigh.Print(x)
	if !sameTable(x, y) {
		t.Error(x, y)
	}
}

// anyInt is a number that may be anything, often one near a limit.
func anyInt(r *rand.Rand) int {
	edges := []int{0, 1, -1, 2, 9, 10, api.MaxHalf, -api.MaxHalf, api.MaxUp, api.MaxAlong, api.MaxNum, math.MaxInt, math.MinInt}
	switch r.Intn(4) {
	case 0:
		return r.Intn(20)
	case 1:
		return int(r.Uint64())
	default:
		return edges[r.Intn(len(edges))] + r.Intn(3) - 1
	}
}

// anyList is a list that may be anything, often positions.
func anyList(r *rand.Rand) []int {
	l := make([]int, r.Intn(12))
	for i := range l {
		if l[i] = anyInt(r); r.Intn(3) > 0 && i > 0 && l[i-1] < api.MaxAlong {
			l[i] = l[i-1] + 1 + r.Intn(3)
		}
	}
	return l
}

// TestAnyArguments calls all functions with arguments of all kinds: none of
// them panics, and with an error all results but a line are zero values.
func TestAnyArguments(t *testing.T) {
	r := rand.New(rand.NewSource(1))
	for range 30000 {
		f, g := api.Frac{N: anyInt(r), D: anyInt(r)}, api.Frac{N: anyInt(r), D: anyInt(r)}
		weigh.Check(f)
		weigh.Cmp(f, g)
		for _, op := range operations {
			if got, e := op.do(f, g); e != api.OK && got != (api.Frac{}) {
				t.Error(op.name, f, g, got, e)
			}
		}
		weigh.Make(f.N, f.D)
		for _, do := range []func(api.Frac) (int, api.Errno){weigh.Floor, weigh.Ceil, weigh.Round} {
			if n, e := do(f); e != api.OK && n != 0 {
				t.Error(f, n, e)
			}
		}
		anyPlaces(t, r)
		anyTable(t, r)
	}
}

func anyPlaces(t *testing.T, r *rand.Rand) {
	l, o := anyList(r), anyList(r)
	weigh.CheckPlaces(l)
	if g, e := weigh.Groups(l); e != api.OK && len(g) != 0 {
		t.Error(l, g, e)
	}
	if w, e := weigh.Weights(l); e != api.OK && len(w) != 0 {
		t.Error(l, w, e)
	}
	for name, do := range integrals {
		if n, e := do(l, o); e != api.OK && n != 0 {
			t.Error(name, l, o, n, e)
		}
	}
	if n, e := weigh.Moment(l, o, anyInt(r)); e != api.OK && n != 0 {
		t.Error(l, o, n, e)
	}
	if a, b, e := weigh.Part(l, anyInt(r)); e != api.OK && len(a)+len(b) != 0 {
		t.Error(l, a, b, e)
	}
	if j, e := weigh.Join(l, o); e != api.OK && len(j) != 0 {
		t.Error(l, o, j, e)
	}
	if g, e := weigh.Grid(l, o); e != api.OK && len(g) != 0 {
		t.Error(l, o, g, e)
	}
}

func anyTable(t *testing.T, r *rand.Rand) {
	x := api.Table{Stations: anyList(r), Waters: anyList(r)}
	for range r.Intn(11) {
		x.Halves = append(x.Halves, anyList(r))
	}
	weigh.CheckTable(x)
	if n, e := weigh.Volume(x); e != api.OK && n != 0 {
		t.Error(x, n, e)
	}
	if n, e := weigh.Litres(x); e != api.OK && n != 0 {
		t.Error(x, n, e)
	}
	if s, e := weigh.Print(x); e != api.OK && s != "" {
		t.Error(x, s, e)
	}
	text := make([]byte, r.Intn(80))
	for i := range text {
		text[i] = "waters station 012 345\n\n ##-x\xff"[r.Intn(29)]
	}
	if x, n, e := weigh.Parse(string(text)); e != api.OK && !sameTable(x, api.Table{}) || e == api.OK && n != 0 {
		t.Errorf("%q %v %d %d", text, x, n, e)
	}
}
