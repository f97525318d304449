package bound_test

import (
	"math"
	"math/big"
	"math/rand"
	"slices"
	"testing"

	"moorsom/api"
	"moorsom/bound"
)

func TestMostExamples(t *testing.T) {
	s := example()
	if n, e := bound.Most(s, []int{0, 1, 1, -2}); n != 22 || e != api.OK {
		t.Error(n, e)
	}
	if lo, hi, e := bound.Range(s, []int{0, -1, 1, 0}); lo != 0 || hi != 3 || e != api.OK {
		t.Error(lo, hi, e)
	}
	if x, e := bound.Best(s, []int{0, 1, 1, -2}); !slices.Equal(x, []int{0, 10, 12, 0}) || e != api.OK {
		t.Error(x, e)
	}
	first, second, n, d, e := bound.Between(s, []int{0, -1, 1, 0}, 2)
	if e != api.OK || !keeps(s, first) || !keeps(s, second) || first[2]-first[1] != 0 || second[2]-second[1] != 3 || n != 2 || d != 3 {
		t.Error(first, second, n, d, e)
	}
	w := []int{0, 1, 0, 0}
	if n, e := bound.Most(bound.Without(s, []int{1}), w); n != 12 || e != api.OK {
		t.Error(n, e)
	}
	if n, e := bound.Most(bound.Without(s, []int{1, 4}), w); n != 0 || e != api.ErrOpen {
		t.Error(n, e)
	}
	// The weight of the unknown 0 counts for nothing.
	if n, e := bound.Most(s, []int{-77, 1, 1, -2}); n != 22 || e != api.OK {
		t.Error(n, e)
	}
}

func TestOpenEnds(t *testing.T) {
	s := looseExample()
	for _, c := range []struct {
		w      []int
		lo, hi any
	}{
		{[]int{0, 0, 0, 0, 0}, 0, 0},
		{[]int{api.MaxSum, 0, 0, 0, 0}, 0, 0},
		{[]int{0, 1, 0, 0, 0}, nil, 5},
		{[]int{0, -3, 0, 0, 0}, -15, nil},
		{[]int{0, 0, -4, 4, 0}, 8, 28},
		{[]int{0, 1, -1, 1, 0}, nil, 12},
		{[]int{0, 0, 1, 0, 0}, nil, nil},
		{[]int{0, 0, 2, -1, 0}, nil, nil},
		{[]int{0, 0, 0, 0, 1}, nil, nil},
		{[]int{0, 1, 0, 0, 1}, nil, nil},
	} {
		n, e := bound.Most(s, c.w)
		if want, ok := c.hi.(int); ok != (e == api.OK) || n != want || !ok && e != api.ErrOpen {
			t.Error(c, n, e)
		}
		n, e = bound.Most(s, negatives(c.w))
		if want, ok := c.lo.(int); ok != (e == api.OK) || n != -want || !ok && e != api.ErrOpen {
			t.Error(c, n, e)
		}
		lo, hi, e := bound.Range(s, c.w)
		if c.lo == nil || c.hi == nil {
			if lo != 0 || hi != 0 || e != api.ErrOpen {
				t.Error(c, lo, hi, e)
			}
		} else if lo != c.lo || hi != c.hi || e != api.OK {
			t.Error(c, lo, hi, e)
		}
	}
}

// mustAttain checks that a point keeps a system and has a sum.
func mustAttain(t *testing.T, s api.System, w, x []int, sum int) {
	t.Helper()
	value, e := bound.Value(w, x)
	if !keeps(s, x) || !within(x, -farthest, farthest) || sumOf(w, x) != sum || e != api.OK || value != sum {
		t.Fatal(s, w, x, sum, value, e)
	}
}

// mustBeGreatest checks P2.3: a point attains a sum, and a proof shows that
// none is greater; both are held against the chapter, not against the package.
func mustBeGreatest(t *testing.T, s api.System, w []int, most int) {
	t.Helper()
	x, e := bound.Best(s, w)
	mustHold(t, e, s, w)
	mustAttain(t, s, w, x, most)
	p, e := bound.Prove(s, w)
	mustHold(t, e, s, w)
	if p.Bound != most || !shows(s, w, p) || bound.CheckProof(s, w, p) != api.OK {
		t.Fatal(s, w, p, most)
	}
}

// TestGreatestSums is P2.3 for small systems: there is a greatest sum exactly
// if no sums are as great as one likes.
func TestGreatestSums(t *testing.T) {
	open := 0
	soundSystems(func(r *rand.Rand, s api.System) {
		w := randomWeights(r, s.Many, 1+r.Intn(4))
		for _, w := range [][]int{w, negatives(w), make([]int, s.Many+1)} {
			most, e := bound.Most(s, w)
			if endless(s, w) {
				open++
				for _, o := range weighted(s, w, 0) {
					if o.e != api.ErrOpen || !o.zero() {
						t.Fatal(s, w, o)
					}
				}
				continue
			}
			if e != api.OK {
				t.Fatal(s, w, e)
			}
			mustBeGreatest(t, s, w, most)
			for range 5 {
				x, _ := bound.Point(s, []int{r.Int(), r.Int(), r.Int()})
				if sumOf(w, x) > most {
					t.Fatal(s, w, x, most)
				}
			}
		}
	})
	if open < 500 {
		t.Error("too few sums are open:", open)
	}
}

// TestGreatestSumsOfAllPoints tries all points of small systems in a box.
func TestGreatestSumsOfAllPoints(t *testing.T) {
	r := rand.New(rand.NewSource(7))
	for range 150 {
		s := randomSystem(r, 3, r.Intn(9), 4, 9)
		for v := range 3 {
			s.Limits = append(s.Limits, api.Limit{A: 0, B: v + 1, Most: 4, By: 1}, api.Limit{A: v + 1, B: 0, Most: 4, By: 1})
		}
		w := randomWeights(r, 3, 6)
		most, found := math.MinInt, false
		for i := range 9 * 9 * 9 {
			x := []int{0, i%9 - 4, i/9%9 - 4, i/81 - 4}
			if keeps(s, x) {
				most, found = max(most, sumOf(w, x)), true
			}
		}
		n, e := bound.Most(s, w)
		if found && (n != most || e != api.OK) || !found && (n != 0 || e != api.ErrClash) {
			t.Fatal(s, w, n, e, most, found)
		}
	}
}

// TestEnds is P2.4: both ends are attained, and each number between them lies
// on the way from one point to the other.
func TestEnds(t *testing.T) {
	soundSystems(func(r *rand.Rand, s api.System) {
		w := randomWeights(r, s.Many, 5)
		lo, hi, e := bound.Range(s, w)
		if e != api.OK {
			return
		}
		least, _ := bound.Most(s, negatives(w))
		most, _ := bound.Most(s, w)
		if lo != -least || hi != most || lo > hi {
			t.Fatal(s, w, lo, hi, least, most)
		}
		mustBeGreatest(t, s, negatives(w), -lo)
		mustBeGreatest(t, s, w, hi)
		for _, sum := range []int{lo, hi, (lo + hi) / 2, lo + r.Intn(hi-lo+1)} {
			first, second, n, d, e := bound.Between(s, w, sum)
			mustHold(t, e, s, w, sum)
			mustAttain(t, s, w, first, lo)
			mustAttain(t, s, w, second, hi)
			if n != sum-lo || d != max(hi-lo, 1) || lo == hi && n != 0 {
				t.Fatal(s, w, sum, n, d)
			}
		}
		for _, sum := range []int{lo - 1, hi + 1, math.MinInt, math.MaxInt} {
			first, second, n, d, e := bound.Between(s, w, sum)
			if e != api.ErrNone || len(first)+len(second) != 0 || n != 0 || d != 0 {
				t.Fatal(s, w, sum, first, second, n, d, e)
			}
		}
	})
}

// TestGreatestNumbers has the greatest numbers of unknowns and limits, and
// weights whose sizes add up to the greatest number.
func TestGreatestNumbers(t *testing.T) {
	r := rand.New(rand.NewSource(8))
	for i := range 12 {
		s := fullSystem(r)
		w := randomWeights(r, api.MaxUnknowns, api.MaxSum/api.MaxUnknowns/2)
		if i%3 == 1 { // many small ones
			w = randomWeights(r, api.MaxUnknowns, 3)
		}
		if i%3 == 2 { // one size for all
			for v := range w {
				w[v] = api.MaxSum / 65
				if r.Intn(2) == 0 {
					w[v] = -w[v]
				}
			}
		}
		rest := api.MaxSum
		for _, n := range w {
			rest -= max(n, -n)
		}
		w[1+i] += rest * (1 - 2*(i%2))
		if i%2 == 0 != (w[1+i] > 0) {
			w[1+i] = 0
		}
		lo, hi, e := bound.Range(s, w)
		mustHold(t, e)
		mustBeGreatest(t, s, w, hi)
		mustBeGreatest(t, s, negatives(w), -lo)
	}
}

func TestGreatestSum(t *testing.T) {
	s := chainSystem(api.MaxMost)
	w := unit(api.MaxUnknowns, api.MaxUnknowns, api.MaxSum)
	// The chain alone, with the unknown as loose from below as can be.
	up := without(s, func(i int, _ api.Limit) bool { return i%2 == 1 })
	for _, s := range []api.System{s, up} {
		most, e := bound.Most(s, w)
		if e != api.OK || most != api.MaxSum*farthest {
			t.Error(most, e)
		}
		mustBeGreatest(t, s, w, most)
	}
	if _, e := bound.Most(up, negatives(w)); e != api.ErrOpen {
		t.Error(e)
	}
	down := without(s, func(i int, _ api.Limit) bool { return i%2 == 0 })
	mustBeGreatest(t, down, negatives(w), -api.MaxSum*farthest)
	if _, e := bound.Most(down, w); e != api.ErrOpen {
		t.Error(e)
	}
	// Half of the weight goes from each end of a chain to the other one.
	loose := without(s, func(i int, _ api.Limit) bool { return i == 0 || i == 1 })
	w = unit(api.MaxUnknowns, api.MaxUnknowns, api.MaxSum/2)
	w[1] = -api.MaxSum / 2
	mustBeGreatest(t, loose, w, api.MaxSum/2*63*api.MaxMost)
}

func TestWidestBetween(t *testing.T) {
	s := api.System{Many: api.MaxUnknowns}
	for v := range api.MaxUnknowns {
		s.Limits = append(s.Limits, api.Limit{A: v, B: v + 1, Most: api.MaxMost, By: 1}, api.Limit{A: v + 1, B: v, Most: api.MaxMost, By: 1})
	}
	w := unit(api.MaxUnknowns, api.MaxUnknowns, -api.MaxSum)
	end := api.MaxSum * farthest
	for _, sum := range []int{-end, -1, 0, 77, end} {
		first, second, n, d, e := bound.Between(s, w, sum)
		mustHold(t, e, sum)
		mustAttain(t, s, w, first, -end)
		mustAttain(t, s, w, second, end)
		if n != sum+end || d != 2*end {
			t.Error(sum, n, d)
		}
		// n / d of the way is the sum, as real numbers.
		way := new(big.Rat).Mul(big.NewRat(int64(n), int64(d)), big.NewRat(2, 1))
		way.Sub(way, big.NewRat(1, 1)).Mul(way, big.NewRat(int64(end), 1))
		if way.Cmp(big.NewRat(int64(sum), 1)) != 0 {
			t.Error(sum, way)
		}
	}
}

func TestNothingToWeigh(t *testing.T) {
	for _, s := range []api.System{{}, {Many: 1}, {Many: api.MaxUnknowns}, example(), looseExample(), chainSystem(9), fullSystem(rand.New(rand.NewSource(9)))} {
		for _, first := range []int{0, 5, api.MaxSum, -api.MaxSum} {
			w := unit(s.Many, 0, first)
			lo, hi, e := bound.Range(s, w)
			if lo != 0 || hi != 0 || e != api.OK {
				t.Error(s, lo, hi, e)
			}
			mustBeGreatest(t, s, w, 0)
			if p, _ := bound.Prove(s, w); len(p.Uses) != 0 {
				t.Error(p)
			}
			a, b, n, d, e := bound.Between(s, w, 0)
			if e != api.OK || !keeps(s, a) || !keeps(s, b) || n != 0 || d != 1 {
				t.Error(a, b, n, d, e)
			}
			if l, e := bound.Moves(s, w); e != api.OK || len(l) != 0 {
				t.Error(l, e)
			}
		}
	}
}

// TestManyPortions has a ladder on which ways become dearer in many small
// steps; the time that it takes must not grow with the weights.
func TestManyPortions(t *testing.T) {
	s := api.System{Many: api.MaxUnknowns}
	w := make([]int, api.MaxUnknowns+1)
	rest := api.MaxSum
	for v := range api.MaxUnknowns {
		for _, far := range []int{1, 2, 3} {
			if to := v + far; to <= api.MaxUnknowns && v > 0 {
				s.Limits = append(s.Limits, api.Limit{A: v, B: to, Most: min(1<<(v/4), api.MaxMost) - far, By: 1}, api.Limit{A: to, B: v, Most: 3 * far, By: 2})
			}
		}
		w[v+1] = rest / 2
		if rest -= w[v+1]; v%2 == 1 {
			w[v+1] = -w[v+1]
		}
	}
	s.Limits = append(s.Limits, api.Limit{A: 0, B: 1, Most: 7, By: 3}, api.Limit{A: 1, B: 0, Most: 0, By: 3})
	if len(s.Limits) > api.MaxLimits || !isSound(s) {
		t.Fatal(len(s.Limits))
	}
	lo, hi, e := bound.Range(s, w)
	mustHold(t, e)
	mustBeGreatest(t, s, w, hi)
	mustBeGreatest(t, s, negatives(w), -lo)
}
