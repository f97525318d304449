package bound_test

import (
	"math"
	"math/big"
	"math/rand"
	"slices"
	"testing"

	"moorsom/api"
	"moorsom/bound"
)

func TestPointExamples(t *testing.T) {
	for _, c := range []struct {
		s           api.System
		picks, want []int
	}{
		{example(), nil, []int{0, 4, 4, 0}},
		{example(), []int{}, []int{0, 4, 4, 0}},
		{example(), []int{1, 2, 3}, []int{0, 5, 7, 3}},
		{example(), []int{1, 2, 3, 99}, []int{0, 5, 7, 3}},
		{example(), []int{1}, []int{0, 5, 6, 1}},               // from the first one again
		{example(), []int{6, 1}, []int{0, 10, 11, 6}},          // the same
		{example(), []int{7, 4, 8}, []int{0, 4, 4, 0}},         // modulo
		{example(), []int{-1, -1, -1}, []int{0, 10, 12, 7}},    // modulo, below 0
		{example(), []int{6, 3, 15}, []int{0, 10, 10, 7}},      // 10 to 12 are left
		{looseExample(), nil, []int{0, 5, 0, 2, 0}},            // one end alone; none; then a choice
		{looseExample(), []int{3}, []int{0, 5, 0, 5, 0}},       // 2 to 7 are left to the unknown 3
		{looseExample(), []int{1, 2, 9}, []int{0, 5, 0, 5, 0}}, // each takes a number, also without a choice
		{api.System{}, []int{7}, []int{0}},
		{api.System{Many: 2}, []int{7}, []int{0, 0, 0}},
		{api.System{Many: 2, Limits: []api.Limit{{A: 1, B: 0, Most: 8, By: 1}}}, []int{7}, []int{0, -8, 0}},
		{api.System{Many: 1, Limits: []api.Limit{{A: 0, B: 1, Most: 3, By: 1}, {A: 1, B: 0, Most: -3, By: 1}}}, []int{7}, []int{0, 3}},
		// The unknown 2 is at least 1 by the unknown 1 that is chosen later, too.
		{api.System{Many: 2, Limits: []api.Limit{{A: 0, B: 1, Most: 9, By: 1}, {A: 1, B: 2, Most: -3, By: 1}, {A: 2, B: 0, Most: 1, By: 1}}}, nil, []int{0, 2, -1}},
	} {
		if x, e := bound.Point(c.s, c.picks); e != api.OK || !slices.Equal(x, c.want) {
			t.Error(c.s, c.picks, x, e, "want", c.want)
		}
	}
	if x, e := bound.Point(openExample(), nil); e != api.ErrClash || len(x) != 0 {
		t.Error(x, e)
	}
}

// TestPointChooses holds Point against what the chapter says, number by number.
func TestPointChooses(t *testing.T) {
	soundSystems(func(r *rand.Rand, s api.System) {
		picks := make([]int, 1+r.Intn(6))
		for i := range picks {
			picks[i] = int(r.Uint64())
		}
		c, _ := apart(s)
		want := []int{0}
		for b := 1; b <= s.Many; b++ {
			var los, his []int
			for a := range b {
				if c[b][a] != api.Free {
					los = append(los, want[a]-c[b][a])
				}
				if c[a][b] != api.Free {
					his = append(his, want[a]+c[a][b])
				}
			}
			n := 0
			switch {
			case len(los) > 0 && len(his) > 0:
				lo, hi := slices.Max(los), slices.Min(his)
				pick := big.NewInt(int64(picks[(b-1)%len(picks)]))
				n = lo + int(pick.Mod(pick, big.NewInt(int64(hi-lo+1))).Int64())
			case len(los) > 0:
				n = slices.Max(los)
			case len(his) > 0:
				n = slices.Min(his)
			}
			want = append(want, n)
		}
		if x, e := bound.Point(s, picks); e != api.OK || !slices.Equal(x, want) {
			t.Fatal(s, picks, x, e, want)
		}
	})
}

func TestPointOfGreatSystems(t *testing.T) {
	r := rand.New(rand.NewSource(6))
	for range 10 {
		s := fullSystem(r)
		x, e := bound.Point(s, []int{r.Int(), math.MinInt, math.MaxInt, -1})
		if e != api.OK || !keeps(s, x) || bound.CheckPoint(s, x) != api.OK {
			t.Fatal(x, e)
		}
	}
	x, e := bound.Point(chainSystem(-api.MaxMost), []int{math.MinInt})
	if e != api.OK || x[api.MaxUnknowns] != -farthest {
		t.Error(x, e)
	}
}

func TestCheckPoint(t *testing.T) {
	s := example()
	for _, x := range [][]int{{0, 4, 4, 0}, {0, 10, 12, 7}, {0, 5, 7, 3}, {0, 9, 12, 0}} {
		mustHold(t, bound.CheckPoint(s, x), x)
	}
	for _, x := range [][]int{
		nil, {}, {0}, {0, 4, 4}, {0, 4, 4, 0, 0}, {1, 5, 5, 1}, {-1, 4, 4, 0}, {0, 3, 4, 0}, {0, 11, 12, 0}, {0, 4, 3, 0}, {0, 4, 8, 0},
		{0, 10, 13, 0}, {0, 4, 4, -1}, {0, 4, 4, 8}, {0, math.MaxInt, math.MaxInt, 0}, {0, math.MinInt, math.MaxInt, 0}, {math.MinInt, 4, 4, 0},
	} {
		if e := bound.CheckPoint(s, x); e != api.ErrPoint {
			t.Error(x, e)
		}
	}
	loose := api.System{Many: 2}
	for _, n := range []int{api.Free, -api.Free} {
		mustHold(t, bound.CheckPoint(loose, []int{0, n, -n}), n)
	}
	for _, n := range []int{api.Free + 1, -api.Free - 1, math.MaxInt, math.MinInt} {
		if bound.CheckPoint(loose, []int{0, n, 0}) != api.ErrPoint || bound.CheckPoint(loose, []int{0, 0, n}) != api.ErrPoint {
			t.Error(n)
		}
	}
	mustHold(t, bound.CheckPoint(api.System{}, []int{0}))
	if e := bound.CheckPoint(openExample(), []int{0, 10, 12, 0}); e != api.ErrPoint {
		t.Error(e)
	}
	if e := bound.CheckPoint(api.System{Many: 65}, nil); e != api.ErrSystem {
		t.Error(e)
	}
}

func TestValue(t *testing.T) {
	long, half := make([]int, api.MaxUnknowns+2), api.MaxSum/2
	for _, c := range []struct {
		w, x []int
		n    int
		e    api.Errno
	}{
		{nil, nil, 0, api.OK},
		{[]int{}, nil, 0, api.OK},
		{[]int{0, 1, 1, -2}, []int{0, 10, 12, 0}, 22, api.OK},
		{[]int{5, 1}, []int{0, -3}, -3, api.OK},
		{[]int{5, 1}, []int{2, -3}, 7, api.OK},
		{[]int{0, api.MaxSum}, []int{0, farthest}, api.MaxSum * farthest, api.OK},
		{[]int{0, half, -half}, []int{0, -farthest, farthest}, -api.MaxSum * farthest, api.OK},
		{[]int{half, half}, []int{farthest, farthest}, api.MaxSum * farthest, api.OK},
		{long[1:], long[1:], 0, api.OK},
		{long, long, 0, api.ErrWeight},
		{long, nil, 0, api.ErrWeight},
		{[]int{0, api.MaxSum + 1}, []int{0, 0}, 0, api.ErrWeight},
		{[]int{1, -api.MaxSum}, []int{0, 0}, 0, api.ErrWeight},
		{[]int{half, half, 1}, []int{0}, 0, api.ErrWeight},
		{[]int{math.MinInt, 0}, []int{0, 0}, 0, api.ErrWeight},
		{[]int{math.MinInt, math.MinInt}, []int{0, 0}, 0, api.ErrWeight},
		{[]int{math.MaxInt, math.MaxInt, 2}, []int{0, 0, 0}, 0, api.ErrWeight},
		{[]int{0, 1}, []int{0}, 0, api.ErrPoint},
		{[]int{0}, []int{0, 1}, 0, api.ErrPoint},
		{nil, []int{0}, 0, api.ErrPoint},
		{[]int{0, 0}, []int{0, farthest + 1}, 0, api.ErrPoint},
		{[]int{0, 0}, []int{-farthest - 1, 0}, 0, api.ErrPoint},
		{[]int{0, 0}, []int{0, math.MinInt}, 0, api.ErrPoint},
		{[]int{0, 0}, []int{0, math.MaxInt}, 0, api.ErrPoint},
	} {
		if n, e := bound.Value(c.w, c.x); n != c.n || e != c.e {
			t.Error(c, n, e)
		}
	}
}
