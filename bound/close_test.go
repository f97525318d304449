package bound_test

import (
	"math"
	"math/rand"
	"slices"
	"testing"

	"moorsom/api"
	"moorsom/bound"
)

func TestCloseExample(t *testing.T) {
	c, e := bound.Close(example())
	if e != api.OK || len(c) != 4 || c[0][2] != 12 || c[2][0] != -4 || c[3][2] != 12 {
		t.Error(c, e)
	}
	if c, e := bound.Close(openExample()); e != api.ErrClash || len(c) != 0 {
		t.Error(c, e)
	}
	c, e = bound.Close(looseExample())
	want := [][]int{
		{0, 5, api.Free, api.Free, api.Free},
		{api.Free, 0, api.Free, api.Free, api.Free},
		{api.Free, api.Free, 0, 7, api.Free},
		{api.Free, api.Free, -2, 0, api.Free},
		{api.Free, api.Free, api.Free, api.Free, 0},
	}
	if e != api.OK || !slices.EqualFunc(c, want, slices.Equal) {
		t.Error(c, e)
	}
	if c, e := bound.Close(api.System{}); e != api.OK || len(c) != 1 || !slices.Equal(c[0], []int{0}) {
		t.Error(c, e)
	}
	c, e = bound.Close(chainSystem(api.MaxMost))
	if e != api.OK || c[0][api.MaxUnknowns] != farthest || c[api.MaxUnknowns][0] != -farthest || c[64][1] != -63*api.MaxMost {
		t.Error(e)
	}
}

// TestClosed is P2.5: Close tells the greatest differences, and obeys the triangle.
func TestClosed(t *testing.T) {
	smallSystems(func(r *rand.Rand, s api.System) {
		want, ok := apart(s)
		c, e := bound.Close(s)
		if ok != (e == api.OK) || !ok && (e != api.ErrClash || len(c) != 0) {
			t.Fatal(s, c, e)
		}
		if !slices.EqualFunc(c, want, slices.Equal) {
			t.Fatal(s, c, want)
		}
		for a := range c {
			for b := range c {
				w := make([]int, s.Many+1)
				w[b]++
				w[a]--
				most, e := bound.Most(s, w)
				if c[a][b] == api.Free && e != api.ErrOpen || c[a][b] != api.Free && (e != api.OK || most != c[a][b]) {
					t.Fatal(s, a, b, c[a][b], most, e)
				}
				for k := range c {
					if c[a][k] != api.Free && c[k][b] != api.Free && c[a][b] > c[a][k]+c[k][b] {
						t.Fatal("triangle", s, a, k, b)
					}
				}
			}
		}
	})
}

// TestClosedPartsGoOn is P2.5: numbers of some unknowns that keep Close are
// those of a point. Points that numbers choose are begun in all ways, and
// each is gone on with: as the last unknowns keep Close too, the system is sound.
func TestClosedPartsGoOn(t *testing.T) {
	soundSystems(func(r *rand.Rand, s api.System) {
		c, _ := bound.Close(s)
		some := []int{0}
		x := map[int]int{0: 0}
		for _, v := range r.Perm(s.Many) {
			lo, hi := -20, 20
			for a, n := range x {
				if c[v+1][a] != api.Free {
					lo = max(lo, n-c[v+1][a])
				}
				if c[a][v+1] != api.Free {
					hi = min(hi, n+c[a][v+1])
				}
			}
			if r.Intn(2) == 0 || lo > hi {
				continue
			}
			x[v+1] = lo + r.Intn(hi-lo+1)
			some = append(some, v+1)
		}
		fixed := s
		for _, v := range some[1:] {
			fixed, _ = bound.With(fixed, api.Limit{A: 0, B: v, Most: x[v], By: 1})
			fixed, _ = bound.With(fixed, api.Limit{A: v, B: 0, Most: -x[v], By: 1})
		}
		p, e := bound.Point(fixed, nil)
		if e != api.OK || !keeps(s, p) {
			t.Fatal(s, x, p, e)
		}
		for _, v := range some {
			if p[v] != x[v] {
				t.Fatal(s, x, p)
			}
		}
	})
}

// contradicts is what the chapter says of a chain that contradicts.
func contradicts(s api.System, l []int) bool {
	sum := 0
	for i, limit := range l {
		if limit < 0 || limit >= len(s.Limits) {
			return false
		}
		next := l[(i+1)%len(l)]
		if next < 0 || next >= len(s.Limits) || s.Limits[limit].B != s.Limits[next].A {
			return false
		}
		sum += s.Limits[limit].Most
	}
	return len(l) > 0 && sum < 0
}

func TestCycleExample(t *testing.T) {
	l, e := bound.Cycle(openExample())
	if slices.Sort(l); e != api.OK || !slices.Equal(l, []int{6, 7}) {
		t.Error(l, e)
	}
	for _, s := range []api.System{{}, {Many: api.MaxUnknowns}, example(), looseExample(), chainSystem(-7)} {
		if l, e := bound.Cycle(s); e != api.OK || len(l) != 0 {
			t.Error(l, e)
		}
	}
}

// TestContradictions is P2.2: either a point or a chain.
func TestContradictions(t *testing.T) {
	open := 0
	smallSystems(func(r *rand.Rand, s api.System) {
		l, e := bound.Cycle(s)
		p, f := bound.Point(s, []int{r.Int(), -r.Int(), r.Intn(9)})
		mustHold(t, e, s)
		if isSound(s) {
			if len(l) != 0 || f != api.OK || !keeps(s, p) || bound.CheckPoint(s, p) != api.OK {
				t.Fatal(s, l, p, f)
			}
			return
		}
		open++
		if f != api.ErrClash || len(p) != 0 || len(l) > s.Many+1 || !contradicts(s, l) || bound.CheckCycle(s, l) != api.OK {
			t.Fatal(s, l, p, f)
		}
	})
	if open < 100 {
		t.Error("too few systems are open:", open)
	}
}

func TestCycleOfGreatSystems(t *testing.T) {
	r := rand.New(rand.NewSource(5))
	for range 60 {
		s := randomSystem(r, api.MaxUnknowns, api.MaxLimits, 3000, 1+r.Intn(60))
		l, e := bound.Cycle(s)
		if e != api.OK || isSound(s) != (len(l) == 0) || len(l) > 0 && !contradicts(s, l) || len(l) > api.MaxUnknowns+1 {
			t.Fatal(l, e)
		}
	}
	// The only contradiction goes through all unknowns.
	s := api.System{Many: api.MaxUnknowns}
	for v := range api.MaxUnknowns {
		s.Limits = append(s.Limits, api.Limit{A: v, B: v + 1, Most: 100, By: 1})
	}
	s.Limits = append(s.Limits, api.Limit{A: api.MaxUnknowns, B: 0, Most: -6400, By: 1})
	if l, e := bound.Cycle(s); e != api.OK || len(l) != 0 {
		t.Error(l, e)
	}
	s.Limits[64].Most--
	for range 2 {
		if l, e := bound.Cycle(s); e != api.OK || len(l) != api.MaxUnknowns+1 || !contradicts(s, l) {
			t.Error(l, e)
		}
		slices.Reverse(s.Limits)
	}
}

func TestCheckCycle(t *testing.T) {
	s := openExample()
	s.Limits = append(s.Limits, api.Limit{A: 0, B: 2, Most: 13, By: 9}) // with 7: neither more nor less
	for _, l := range [][]int{
		{6, 7}, {7, 6}, {6, 7, 6, 7}, {0, 2, 7, 6, 7, 6, 7, 6, 7, 6, 7}, slices.Concat([]int{2, 3, 1}, slices.Repeat([]int{6, 7}, 10), []int{0}),
		slices.Repeat([]int{6, 7}, api.MaxUses/2), {8, 7, 6, 7},
	} {
		if e := bound.CheckCycle(s, l); e != api.OK || !contradicts(s, l) {
			t.Error(l, e)
		}
	}
	for _, l := range [][]int{
		nil, {}, {6}, {7}, {6, 6}, {7, 7, 6}, {6, 7, 7}, {0, 1}, {2, 3}, {8, 7}, {6, 1, 0}, {6, 7, 0}, {0, 2, 6, 7}, {-1}, {6, 7, -1}, {9}, {6, 7, 9},
		{6, 9, 7}, {math.MaxInt}, {math.MinInt, 7}, slices.Repeat([]int{6, 7}, api.MaxUses/2+1),
		append(slices.Repeat([]int{6, 7}, api.MaxUses/2-1), 0, 2, 7),           // one too many
		slices.Concat([]int{2, 3, 1}, slices.Repeat([]int{6, 7}, 9), []int{0}), // adds up to 0
	} {
		if e := bound.CheckCycle(s, l); e != api.ErrLimit {
			t.Error(l, e)
		}
	}
	if e := bound.CheckCycle(api.System{}, []int{0}); e != api.ErrLimit {
		t.Error(e)
	}
	if e := bound.CheckCycle(api.System{Many: -1}, []int{0}); e != api.ErrSystem {
		t.Error(e)
	}
}

func TestCheckCycleOfAnyChains(t *testing.T) {
	accepted := 0
	smallSystems(func(r *rand.Rand, s api.System) {
		for range 20 {
			l := make([]int, r.Intn(5))
			for i := range l {
				l[i] = r.Intn(len(s.Limits)+2) - 1
			}
			ok := bound.CheckCycle(s, l) == api.OK
			if ok != contradicts(s, l) || ok && isSound(s) {
				t.Fatal(s, l, ok)
			}
			if ok {
				accepted++
			}
		}
	})
	if accepted < 20 {
		t.Error("too few chains contradict:", accepted)
	}
}

func TestIdleExamples(t *testing.T) {
	if l, e := bound.Idle(example()); e != api.OK || len(l) != 0 {
		t.Error(l, e)
	}
	if l, e := bound.Idle(openExample()); e != api.ErrClash || len(l) != 0 {
		t.Error(l, e)
	}
	s := example()
	s.Limits = append(s.Limits,
		api.Limit{A: 0, B: 2, Most: 12, By: 5}, // as 6: either one alone can go
		api.Limit{A: 3, B: 2, Most: 12, By: 5}, // by 5 and 6
		api.Limit{A: 3, B: 2, Most: 11, By: 5}, // less than by 5 and 6
		api.Limit{A: 1, B: 3, Most: 9, By: 5})  // more than by 1 and 4
	if l, e := bound.Idle(s); e != api.OK || !slices.Equal(l, []int{6, 7, 8, 10}) {
		t.Error(l, e)
	}
	for _, s := range []api.System{{}, {Many: api.MaxUnknowns}, chainSystem(3)} {
		if l, e := bound.Idle(s); e != api.OK || len(l) != 0 {
			t.Error(l, e)
		}
	}
}

// TestIdle is P2.8: without one limit of Idle all ranges are the same, and no
// other limit is like this.
func TestIdle(t *testing.T) {
	many := 0
	soundSystems(func(r *rand.Rand, s api.System) {
		idle, e := bound.Idle(s)
		mustHold(t, e, s)
		whole, _ := apart(s)
		var want []int
		for i := range s.Limits {
			less := without(s, func(k int, _ api.Limit) bool { return k == i })
			if m, _ := apart(less); !slices.EqualFunc(m, whole, slices.Equal) {
				continue
			}
			want = append(want, i)
			w := randomWeights(r, s.Many, 5)
			lo, hi, e := bound.Range(s, w)
			if l, h, f := bound.Range(less, w); l != lo || h != hi || f != e {
				t.Fatal(s, i, w)
			}
		}
		if many += len(want); !slices.Equal(idle, want) {
			t.Fatal(s, idle, want)
		}
	})
	if many < 100 {
		t.Error("too few limits are idle:", many)
	}
}
