package weigh_test

import (
	"math"
	"math/big"
	"slices"
	"testing"

	"moorsom/api"
	"moorsom/weigh"
)

// placeLists returns all lists of 2 to 9 positions from 0 to 9.
func placeLists() [][]int {
	var lists [][]int
	for set := range 1 << 10 {
		var l []int
		for i := range 10 {
			if set>>i&1 == 1 {
				l = append(l, i)
			}
		}
		if len(l) >= 2 && len(l) <= api.MaxStations {
			lists = append(lists, l)
		}
	}
	return lists
}

var invalidPlaces = [][]int{
	nil, {}, {0}, {100}, {5, 5}, {5, 4}, {0, 1, 1}, {0, 2, 1, 3}, {1, 2, 3, 3},
	{-1, 0}, {-1, 5, 6}, {0, api.MaxAlong + 1}, {0, 5, math.MaxInt}, {math.MinInt, 0}, {math.MinInt, math.MaxInt},
	{0, 1, 2, 3, 4, 5, 6, 7, 8, 9},
}

func TestCheckPlaces(t *testing.T) {
	for _, l := range [][]int{{0, 1}, {0, api.MaxAlong}, {api.MaxAlong - 1, api.MaxAlong}, {3, 4, 100}, {0, 1, 2, 3, 4, 5, 6, 7, 8}, {1, 2, 3, 4, 5, 6, 7, 8, api.MaxAlong}} {
		if e := weigh.CheckPlaces(l); e != api.OK {
			t.Error(l, e)
		}
	}
	for _, l := range invalidPlaces {
		if e := weigh.CheckPlaces(l); e != api.ErrPlaces {
			t.Error(l, e)
		}
	}
}

func TestGroups(t *testing.T) {
	for _, c := range []struct {
		l    []int
		want []api.Group
	}{
		{[]int{0, 10, 20, 50, 90}, []api.Group{{From: 0, Many: 2}, {From: 2, Many: 1}, {From: 3, Many: 1}}},
		{[]int{0, 7}, []api.Group{{From: 0, Many: 1}}},
		{[]int{0, 10, 20}, []api.Group{{From: 0, Many: 2}}},
		{[]int{0, 10, 30}, []api.Group{{From: 0, Many: 2}}},
		{[]int{0, 20, 30}, []api.Group{{From: 0, Many: 2}}},
		{[]int{0, 10, 40}, []api.Group{{From: 0, Many: 2}}},
		{[]int{0, 30, 40}, []api.Group{{From: 0, Many: 2}}},
		{[]int{0, 10, 50}, []api.Group{{From: 0, Many: 1}, {From: 1, Many: 1}}},
		{[]int{0, 40, 50}, []api.Group{{From: 0, Many: 1}, {From: 1, Many: 1}}},
		{[]int{0, 10, 29}, []api.Group{{From: 0, Many: 1}, {From: 1, Many: 1}}},
		{[]int{0, 10, 31}, []api.Group{{From: 0, Many: 1}, {From: 1, Many: 1}}},
		{[]int{0, 10, 25}, []api.Group{{From: 0, Many: 1}, {From: 1, Many: 1}}},
		{[]int{0, 2, 5}, []api.Group{{From: 0, Many: 1}, {From: 1, Many: 1}}},
		// Behind an interval that is taken alone the next two are tried.
		{[]int{0, 40, 50, 60}, []api.Group{{From: 0, Many: 1}, {From: 1, Many: 2}}},
		// The first two are taken together, although the last two could be.
		{[]int{0, 10, 20, 30}, []api.Group{{From: 0, Many: 2}, {From: 2, Many: 1}}},
		{[]int{1, 2, 3, 4, 5, 6, 7, 8, 9}, []api.Group{{From: 0, Many: 2}, {From: 2, Many: 2}, {From: 4, Many: 2}, {From: 6, Many: 2}}},
		{[]int{0, 50000, 100000}, []api.Group{{From: 0, Many: 2}}},
		{[]int{0, 25000, 100000}, []api.Group{{From: 0, Many: 2}}},
	} {
		if g, e := weigh.Groups(c.l); !slices.Equal(g, c.want) || e != api.OK {
			t.Error(c.l, g, e, "want", c.want)
		}
	}
	for _, l := range invalidPlaces {
		if g, e := weigh.Groups(l); len(g) != 0 || e != api.ErrPlaces {
			t.Error(l, g, e)
		}
	}
}

// taken tells whether two intervals are taken together.
func taken(a, b int) bool {
	return a == b || a == 2*b || b == 2*a || a == 3*b || b == 3*a
}

func TestGroupsOfAllLists(t *testing.T) {
	for _, l := range placeLists() {
		groups, e := weigh.Groups(l)
		if e != api.OK {
			t.Fatal(l, e)
		}
		at := 0
		for _, g := range groups {
			want := 1
			if at+2 < len(l) && taken(l[at+1]-l[at], l[at+2]-l[at+1]) {
				want = 2
			}
			if g.From != at || g.Many != want {
				t.Error(l, groups)
			}
			at += g.Many
		}
		if at != len(l)-1 {
			t.Error(l, groups)
		}
	}
}

func TestWeights(t *testing.T) {
	for _, c := range []struct{ l, want []int }{
		{[]int{0, 10, 20, 50, 90}, []int{120, 480, 660, 1260, 720}},
		{[]int{0, 10, 40}, []int{-240, 1280, 400}},
		{[]int{0, 30, 40}, []int{400, 1280, -240}},
		{[]int{0, 10, 30}, []int{0, 810, 270}},
		{[]int{0, 20, 30}, []int{270, 810, 0}},
		{[]int{0, 10, 20}, []int{120, 480, 120}},
		{[]int{5, 9}, []int{72, 72}},
		{[]int{0, 1}, []int{18, 18}},
		{[]int{0, api.MaxAlong}, []int{1800000, 1800000}},
		{[]int{0, 25000, api.MaxAlong}, []int{-600000, 3200000, 1000000}},
		{[]int{0, 1, 5, 6}, []int{18, 90, 90, 18}},
		{[]int{0, 40, 50, 60}, []int{720, 840, 480, 120}},
		{[]int{0, 10, 20, 50}, []int{120, 480, 660, 540}},
	} {
		if w, e := weigh.Weights(c.l); !slices.Equal(w, c.want) || e != api.OK {
			t.Error(c.l, w, e, "want", c.want)
		}
	}
	for _, l := range invalidPlaces {
		if w, e := weigh.Weights(l); len(w) != 0 || e != api.ErrPlaces {
			t.Error(l, w, e)
		}
	}
}

// exactWeights integrates, for each group, the polynomials that are 1 at one
// of its positions and 0 at its others, and returns 36 times the integrals.
func exactWeights(l []int, groups []api.Group) []*big.Rat {
	weights := make([]*big.Rat, len(l))
	for i := range weights {
		weights[i] = new(big.Rat)
	}
	for _, g := range groups {
		for at := g.From; at <= g.From+g.Many; at++ {
			p := []*big.Rat{big.NewRat(api.Scale, 1)}
			for other := g.From; other <= g.From+g.Many; other++ {
				if other != at {
					p = timesRoot(p, l[other], big.NewRat(1, int64(l[at]-l[other])))
				}
			}
			weights[at].Add(weights[at], integral(p, l[g.From], l[g.From+g.Many]))
		}
	}
	return weights
}

// timesRoot is the polynomial times (x - root) times a factor.
func timesRoot(p []*big.Rat, root int, factor *big.Rat) []*big.Rat {
	q := make([]*big.Rat, len(p)+1)
	for i := range q {
		q[i] = new(big.Rat)
		if i > 0 {
			q[i].Add(q[i], p[i-1])
		}
		if i < len(p) {
			q[i].Sub(q[i], new(big.Rat).Mul(p[i], big.NewRat(int64(root), 1)))
		}
		q[i].Mul(q[i], factor)
	}
	return q
}

// integral is that of a polynomial from one position to another one.
func integral(p []*big.Rat, from, to int) *big.Rat {
	sum := new(big.Rat)
	for i, c := range p {
		span := new(big.Int).Exp(big.NewInt(int64(to)), big.NewInt(int64(i+1)), nil)
		span.Sub(span, new(big.Int).Exp(big.NewInt(int64(from)), big.NewInt(int64(i+1)), nil))
		part := new(big.Rat).SetFrac(span, big.NewInt(int64(i+1)))
		sum.Add(sum, part.Mul(part, c))
	}
	return sum
}

func TestWeightsAreExact(t *testing.T) {
	lists := append(placeLists(), []int{0, 25000, 100000}, []int{0, 75000, 100000}, []int{1, 33334, 100000}, []int{0, 33333, 99999})
	for _, l := range lists {
		groups, _ := weigh.Groups(l)
		weights, e := weigh.Weights(l)
		if e != api.OK || len(weights) != len(l) {
			t.Fatal(l, weights, e)
		}
		for i, want := range exactWeights(l, groups) {
			if want.Cmp(big.NewRat(int64(weights[i]), 1)) != 0 {
				t.Error(l, i, weights, want)
			}
		}
	}
}

// values are those of a + b x + c x^2 at positions.
func values(l []int, a, b, c int) []int {
	v := make([]int, len(l))
	for i, x := range l {
		v[i] = a + b*x + c*x*x
	}
	return v
}

// inPairs tells whether all groups of positions have two intervals.
func inPairs(l []int) bool {
	groups, _ := weigh.Groups(l)
	for _, g := range groups {
		if g.Many != 2 {
			return false
		}
	}
	return true
}

func TestAreaIsExact(t *testing.T) {
	for _, l := range placeLists() {
		for _, p := range [][3]int{{1, 0, 0}, {0, 1, 0}, {7, -3, 0}, {-5, 11, 0}, {0, 0, 1}, {3, -4, 2}, {-20, 7, -3}} {
			if p[2] != 0 && !inPairs(l) {
				continue
			}
			area, e := weigh.Area(l, values(l, p[0], p[1], p[2]))
			poly := []*big.Rat{big.NewRat(int64(p[0]), 1), big.NewRat(int64(p[1]), 1), big.NewRat(int64(p[2]), 1)}
			want := integral(poly, l[0], l[len(l)-1])
			want.Mul(want, big.NewRat(api.Scale, 1))
			if e != api.OK || want.Cmp(big.NewRat(int64(area), 1)) != 0 {
				t.Error(l, p, area, e, "want", want)
			}
		}
	}
}

func TestAreaExamples(t *testing.T) {
	for _, c := range []struct {
		l, ordinates []int
		want         int
	}{
		{[]int{0, 10, 40}, []int{0, 100, 1600}, 768000},
		{[]int{0, 10}, []int{0, 0}, 0},
		{[]int{0, 10}, []int{1, -1}, 0},
		{[]int{0, 10}, []int{3, 5}, 1440},
		{[]int{0, api.MaxAlong}, []int{api.MaxHalf, api.MaxHalf}, 72000000000},
		{[]int{0, api.MaxAlong}, []int{-api.MaxHalf, -api.MaxHalf}, -72000000000},
		{[]int{0, 25000, api.MaxAlong}, []int{-api.MaxHalf, api.MaxHalf, api.MaxHalf}, 96000000000},
		{[]int{0, 10, 40}, []int{100, 0, 0}, -24000},
	} {
		if n, e := weigh.Area(c.l, c.ordinates); n != c.want || e != api.OK {
			t.Error(c.l, c.ordinates, n, e, "want", c.want)
		}
	}
}

func TestMomentExamples(t *testing.T) {
	for _, c := range []struct {
		l, ordinates []int
		about, want  int
	}{
		{[]int{0, 10, 20}, []int{1, 1, 1}, 0, 7200},
		{[]int{0, 10, 20}, []int{1, 1, 1}, 10, 0},
		{[]int{0, 10, 20}, []int{1, 1, 1}, 20, -7200},
		{[]int{0, 10, 20}, []int{1, 2, 4}, 5, 120*(-5) + 480*2*5 + 120*4*15},
		{[]int{0, 10}, []int{0, 1}, api.MaxAlong, 180 * (10 - api.MaxAlong)},
		{[]int{0, api.MaxAlong}, []int{-api.MaxHalf, api.MaxHalf}, 0, 3600000000000000},
		{[]int{0, api.MaxAlong}, []int{api.MaxHalf, api.MaxHalf}, api.MaxAlong, -3600000000000000},
	} {
		if n, e := weigh.Moment(c.l, c.ordinates, c.about); n != c.want || e != api.OK {
			t.Error(c.l, c.ordinates, c.about, n, e, "want", c.want)
		}
	}
}

func TestCentreExamples(t *testing.T) {
	for _, c := range []struct {
		l, ordinates []int
		want         api.Frac
		e            api.Errno
	}{
		{[]int{0, 10, 20}, []int{1, 1, 1}, api.Frac{N: 10, D: 1}, api.OK},
		{[]int{0, 1}, []int{1, 1}, api.Frac{N: 1, D: 2}, api.OK},
		{[]int{4, 7}, []int{-1, -1}, api.Frac{N: 11, D: 2}, api.OK},
		{[]int{0, 10}, []int{2, -1}, api.Frac{N: -10, D: 1}, api.OK},
		{[]int{0, 10}, []int{-1, 3}, api.Frac{N: 15, D: 1}, api.OK},
		{[]int{0, 10}, []int{1, 0}, api.Frac{N: 0, D: 1}, api.OK},
		{[]int{0, 10}, []int{1, -1}, api.Frac{}, api.ErrNone},
		{[]int{0, 10}, []int{0, 0}, api.Frac{}, api.ErrNone},
		// 10^5 * 20000 / 1 is more than a fraction can have.
		{[]int{0, api.MaxAlong}, []int{-api.MaxHalf + 1, api.MaxHalf}, api.Frac{}, api.ErrBig},
		{[]int{0, 50000}, []int{-api.MaxHalf + 1, api.MaxHalf}, api.Frac{N: 1000000000, D: 1}, api.OK},
		{[]int{0, 50001}, []int{-api.MaxHalf + 1, api.MaxHalf}, api.Frac{}, api.ErrBig},
	} {
		if f, e := weigh.Centre(c.l, c.ordinates); f != c.want || e != c.e {
			t.Error(c.l, c.ordinates, f, e, "want", c.want, c.e)
		}
	}
}

func TestCentreOfEqualOrdinatesIsTheMiddle(t *testing.T) {
	for _, l := range placeLists() {
		for _, ordinate := range []int{1, 7, api.MaxHalf} {
			f, e := weigh.Centre(l, slices.Repeat([]int{ordinate}, len(l)))
			want, _ := weigh.Make(l[0]+l[len(l)-1], 2)
			if f != want || e != api.OK {
				t.Error(l, ordinate, f, e)
			}
		}
	}
}

// integrals are the functions that take positions and ordinates.
var integrals = map[string]func(l, ordinates []int) (int, api.Errno){
	"Area":    weigh.Area,
	"Moment0": func(l, o []int) (int, api.Errno) { return weigh.Moment(l, o, 0) },
	"Moment5": func(l, o []int) (int, api.Errno) { return weigh.Moment(l, o, 5) },
	"MomentX": func(l, o []int) (int, api.Errno) { return weigh.Moment(l, o, api.MaxAlong) },
	"Centre": func(l, o []int) (int, api.Errno) {
		f, e := weigh.Centre(l, o)
		return f.N + f.D, e
	},
}

func TestIntegralErrors(t *testing.T) {
	for name, do := range integrals {
		for _, l := range invalidPlaces {
			// ErrPlaces is ahead of the ordinates, be they good or bad.
			for _, o := range [][]int{nil, slices.Repeat([]int{1}, len(l)), slices.Repeat([]int{api.MaxHalf + 1}, len(l))} {
				if n, e := do(l, o); n != 0 || e != api.ErrPlaces {
					t.Error(name, l, o, n, e)
				}
			}
		}
		for _, o := range [][]int{nil, {}, {1}, {1, 1}, {1, 1, 1, 1}, {api.MaxHalf + 1, 1, 1}, {1, 1, -api.MaxHalf - 1}, {1, math.MaxInt, 1}, {1, math.MinInt, 1}} {
			if n, e := do([]int{0, 10, 20}, o); n != 0 || e != api.ErrArg {
				t.Error(name, o, n, e)
			}
		}
	}
	for _, about := range []int{-1, api.MaxAlong + 1, math.MinInt, math.MaxInt} {
		if n, e := weigh.Moment([]int{0, 10}, []int{1, 1}, about); n != 0 || e != api.ErrArg {
			t.Error(about, n, e)
		}
		if n, e := weigh.Moment([]int{0}, []int{1, 1}, about); n != 0 || e != api.ErrPlaces {
			t.Error(about, n, e)
		}
	}
}

// somewhere returns ordinates for positions that a seed chooses.
func somewhere(n, seed int) []int {
	o := make([]int, n)
	for i := range o {
		seed = (seed*1103515245 + 12345) & 0x7fffffff
		o[i] = seed/64%19999 - 9999
	}
	return o
}

func TestIntegralsAreLinear(t *testing.T) {
	for at, l := range placeLists() {
		a, b := somewhere(len(l), at), somewhere(len(l), at+5000)
		sum, opposite, twice := make([]int, len(l)), make([]int, len(l)), make([]int, len(l))
		for i := range l {
			sum[i], opposite[i], twice[i] = a[i]+b[i], -a[i], 2*a[i]
		}
		for name, do := range integrals {
			if name == "Centre" {
				continue
			}
			na, e := do(l, a)
			nb, _ := do(l, b)
			ns, _ := do(l, sum)
			no, _ := do(l, opposite)
			nt, _ := do(l, twice)
			if e != api.OK || ns != na+nb || no != -na || nt != 2*na {
				t.Error(name, l, a, b, na, nb, ns, no, nt, e)
			}
		}
	}
}

func TestIntegralsAreSumsOfWeights(t *testing.T) {
	for at, l := range placeLists() {
		o := somewhere(len(l), at)
		weights, _ := weigh.Weights(l)
		area, moment := 0, 0
		for i, w := range weights {
			area += w * o[i]
			moment += w * o[i] * (l[i] - 5)
		}
		if n, e := weigh.Area(l, o); n != area || e != api.OK {
			t.Error("Area", l, o, n, e)
		}
		if n, e := weigh.Moment(l, o, 5); n != moment || e != api.OK {
			t.Error("Moment", l, o, n, e)
		}
	}
}

func TestWeightsAddUpToTheLength(t *testing.T) {
	for _, l := range placeLists() {
		weights, _ := weigh.Weights(l)
		sum := 0
		for _, w := range weights {
			sum += w
		}
		if sum != api.Scale*(l[len(l)-1]-l[0]) {
			t.Error(l, weights)
		}
	}
}

func TestWeightsOfMovedAndScaledPlaces(t *testing.T) {
	for _, l := range placeLists() {
		weights, _ := weigh.Weights(l)
		for _, by := range []int{1, 17, api.MaxAlong - 9} {
			moved := make([]int, len(l))
			for i, x := range l {
				moved[i] = x + by
			}
			if w, e := weigh.Weights(moved); !slices.Equal(w, weights) || e != api.OK {
				t.Error(moved, w, e)
			}
		}
		for _, n := range []int{2, 7, 11111} {
			scaled, want := make([]int, len(l)), make([]int, len(l))
			for i, x := range l {
				scaled[i], want[i] = n*x, n*weights[i]
			}
			if w, e := weigh.Weights(scaled); !slices.Equal(w, want) || e != api.OK {
				t.Error(scaled, w, e)
			}
		}
	}
}

func TestPartExamples(t *testing.T) {
	l := []int{0, 10, 20, 50, 90}
	for _, c := range []struct {
		at            int
		first, second []int
		e             api.Errno
	}{
		{2, []int{0, 10, 20}, []int{20, 50, 90}, api.OK},
		{3, []int{0, 10, 20, 50}, []int{50, 90}, api.OK},
		{1, nil, nil, api.ErrJoin},
		{0, nil, nil, api.ErrJoin},
		{4, nil, nil, api.ErrJoin},
		{5, nil, nil, api.ErrJoin},
		{-1, nil, nil, api.ErrJoin},
		{math.MaxInt, nil, nil, api.ErrJoin},
		{math.MinInt, nil, nil, api.ErrJoin},
	} {
		first, second, e := weigh.Part(l, c.at)
		if !slices.Equal(first, c.first) || !slices.Equal(second, c.second) || e != c.e {
			t.Error(c.at, first, second, e)
		}
	}
	for _, l := range invalidPlaces {
		for _, at := range []int{-1, 0, 1, len(l) - 1, len(l)} {
			if first, second, e := weigh.Part(l, at); len(first) != 0 || len(second) != 0 || e != api.ErrPlaces {
				t.Error(l, at, first, second, e)
			}
		}
	}
	if first, second, e := weigh.Part([]int{0, 1}, 1); len(first) != 0 || len(second) != 0 || e != api.ErrJoin {
		t.Error(first, second, e)
	}
}

func TestJoinExamples(t *testing.T) {
	for _, c := range []struct {
		a, b, want []int
		e          api.Errno
	}{
		{[]int{0, 10}, []int{10, 20}, nil, api.ErrJoin},
		{[]int{0, 10}, []int{10, 30}, nil, api.ErrJoin},
		{[]int{0, 30}, []int{30, 40}, nil, api.ErrJoin},
		{[]int{0, 10}, []int{10, 50}, []int{0, 10, 50}, api.OK},
		{[]int{0, 10, 20}, []int{20, 50}, []int{0, 10, 20, 50}, api.OK},
		{[]int{0, 10, 20}, []int{20, 30, 40}, []int{0, 10, 20, 30, 40}, api.OK},
		// The interval behind the pair would be taken together with the next one.
		{[]int{0, 10, 20, 30}, []int{30, 40}, nil, api.ErrJoin},
		// One interval takes the first of a pair, so that the groups are others.
		{[]int{0, 10}, []int{10, 20, 30}, nil, api.ErrJoin},
		{[]int{0, 10}, []int{11, 50}, nil, api.ErrJoin},
		{[]int{0, 10}, []int{9, 50}, nil, api.ErrJoin},
		{[]int{0, 10}, []int{0, 10}, nil, api.ErrJoin},
		{[]int{0, 10, 20}, []int{10, 20}, nil, api.ErrJoin},
		// Ten positions are too many, nine are not.
		{[]int{0, 1, 2, 3, 4}, []int{4, 5, 6, 7, 8}, []int{0, 1, 2, 3, 4, 5, 6, 7, 8}, api.OK},
		{[]int{0, 1, 2, 3, 4}, []int{4, 5, 6, 7, 8, 9}, nil, api.ErrPlaces},
		// So they are where the groups are others, too; but not where the ends differ.
		{[]int{0, 1, 2, 3, 4, 5}, []int{5, 6, 7, 8, 9}, nil, api.ErrPlaces},
		{[]int{0, 1, 2, 3, 4, 5}, []int{6, 7, 8, 9, 10}, nil, api.ErrJoin},
		{[]int{0, 1}, []int{1}, nil, api.ErrPlaces},
		{[]int{0}, []int{0, 1}, nil, api.ErrPlaces},
	} {
		if l, e := weigh.Join(c.a, c.b); !slices.Equal(l, c.want) || e != c.e {
			t.Error(c.a, c.b, l, e, "want", c.want, c.e)
		}
	}
	for _, bad := range invalidPlaces {
		for _, good := range [][]int{{0, 1}, {0, 10, 20}, {5, 6}, {api.MaxAlong - 1, api.MaxAlong}} {
			if l, e := weigh.Join(bad, good); len(l) != 0 || e != api.ErrPlaces {
				t.Error(bad, good, l, e)
			}
			if l, e := weigh.Join(good, bad); len(l) != 0 || e != api.ErrPlaces {
				t.Error(good, bad, l, e)
			}
		}
		if l, e := weigh.Join(bad, bad); len(l) != 0 || e != api.ErrPlaces {
			t.Error(bad, l, e)
		}
	}
}

// endsGroup tells whether a group of positions ends at an index.
func endsGroup(l []int, at int) bool {
	groups, _ := weigh.Groups(l)
	for _, g := range groups {
		if g.From+g.Many == at {
			return true
		}
	}
	return false
}

func TestPartAndJoinUndo(t *testing.T) {
	for _, l := range placeLists() {
		for at := 1; at < len(l)-1; at++ {
			first, second, e := weigh.Part(l, at)
			if (e == api.OK) != endsGroup(l, at) {
				t.Error(l, at, e)
			}
			if e != api.OK {
				if joined, e := weigh.Join(l[:at+1], l[at:]); len(joined) != 0 || e != api.ErrJoin {
					t.Error(l, at, joined, e)
				}
				continue
			}
			if !slices.Equal(first, l[:at+1]) || !slices.Equal(second, l[at:]) {
				t.Error(l, at, first, second)
			}
			if joined, e := weigh.Join(first, second); !slices.Equal(joined, l) || e != api.OK {
				t.Error(l, at, joined, e)
			}
			testParts(t, l, at)
		}
	}
}

// testParts tests that weights, areas and moments of both parts add up.
func testParts(t *testing.T, l []int, at int) {
	weights, _ := weigh.Weights(l)
	first, _ := weigh.Weights(l[:at+1])
	second, _ := weigh.Weights(l[at:])
	sum := append(slices.Clone(first), second[1:]...)
	sum[at] += second[0]
	if !slices.Equal(sum, weights) {
		t.Error(l, at, first, second, weights)
	}
	o := somewhere(len(l), at)
	for name, do := range integrals {
		if name == "Centre" {
			continue
		}
		all, _ := do(l, o)
		n, _ := do(l[:at+1], o[:at+1])
		m, _ := do(l[at:], o[at:])
		if all != n+m {
			t.Error(name, l, at, all, n, m)
		}
	}
}
