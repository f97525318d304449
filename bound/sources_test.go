package bound_test

import (
	"math/rand"
	"slices"
	"testing"

	"moorsom/api"
	"moorsom/bound"
)

func TestSources(t *testing.T) {
	for _, c := range []struct {
		s    api.System
		want []int
	}{
		{api.System{}, nil},
		{api.System{Many: 5}, nil},
		{example(), []int{1, 2, 3, 4}},
		{openExample(), []int{1, 2, 3, 4, 9}},
		{api.System{Many: -4, Limits: []api.Limit{{By: 7}, {By: -3}, {By: 7}, {By: 0}, {By: 1 << 60}}}, []int{-3, 0, 7, 1 << 60}},
		{api.System{Limits: slices.Repeat([]api.Limit{{By: 5}}, 9*api.MaxLimits)}, []int{5}},
	} {
		if l := bound.Sources(c.s); !slices.Equal(l, c.want) {
			t.Error(c.s, l)
		}
	}
}

func TestWithout(t *testing.T) {
	s := example()
	for _, c := range []struct {
		by   []int
		want []int // indices
	}{
		{nil, []int{0, 1, 2, 3, 4, 5, 6}},
		{[]int{5, 0, -1}, []int{0, 1, 2, 3, 4, 5, 6}},
		{[]int{1}, []int{2, 3, 4, 5, 6}},
		{[]int{4, 2, 4, 9, 2}, []int{0, 1, 4, 5}},
		{[]int{4, 3, 2, 1}, nil},
	} {
		by := slices.Clone(c.by)
		got := bound.Without(s, by)
		want := without(s, func(i int, _ api.Limit) bool { return !slices.Contains(c.want, i) })
		if !sameSystem(got, want) || !sameSystem(s, example()) || !slices.Equal(by, c.by) {
			t.Error(c, got)
		}
	}
	odd := api.System{Many: -4, Limits: []api.Limit{{By: -7, A: 8}, {By: 3, Most: 1 << 50}, {By: -7}}}
	if got := bound.Without(odd, []int{-7}); got.Many != -4 || !slices.Equal(got.Limits, odd.Limits[1:2]) {
		t.Error(got)
	}
	if got := bound.Without(api.System{Many: 77}, []int{1}); got.Many != 77 || len(got.Limits) != 0 {
		t.Error(got)
	}
}

func TestMovesExamples(t *testing.T) {
	s := example()
	for _, c := range []struct {
		s    api.System
		w    []int
		want []int
		e    api.Errno
	}{
		{s, []int{0, 0, 1, 0}, []int{1, 2, 4}, api.OK},
		{s, []int{0, 1, 0, 0}, []int{1}, api.OK},
		{s, []int{0, -1, 1, 0}, []int{2}, api.OK},
		{s, []int{0, 0, 0, 5}, []int{3}, api.OK},
		{s, []int{5, 0, 0, 0}, nil, api.OK},
		{s, []int{0, 0, 1}, nil, api.ErrWeight},
		{openExample(), []int{0, 0, 1, 0}, nil, api.ErrClash},
		{bound.Without(s, []int{2}), []int{0, 0, 1, 0}, nil, api.ErrOpen},
	} {
		if l, e := bound.Moves(c.s, c.w); !slices.Equal(l, c.want) || e != c.e {
			t.Error(c, l, e)
		}
	}
	// Two sources that say the same: without either one the other one stands.
	twice := example()
	twice.Limits = append(twice.Limits, api.Limit{A: 0, B: 2, Most: 12, By: 5})
	if l, e := bound.Moves(twice, []int{0, 0, 1, 0}); !slices.Equal(l, []int{1, 2}) || e != api.OK {
		t.Error(l, e)
	}
}

// TestMoves is P2.6: without a source that is not in Moves the range is the
// same, without one of them it is not.
func TestMoves(t *testing.T) {
	moved, stayed := 0, 0
	soundSystems(func(r *rand.Rand, s api.System) {
		w := randomWeights(r, s.Many, 3)
		lo, hi, e := bound.Range(s, w)
		moves, f := bound.Moves(s, w)
		if e != f {
			t.Fatal(s, w, moves, f, e)
		}
		if e != api.OK {
			return
		}
		var want []int
		for _, source := range bound.Sources(s) {
			l, h, e := bound.Range(without(s, func(_ int, l api.Limit) bool { return l.By == source }), w)
			if e != api.OK || l != lo || h != hi {
				want = append(want, source)
			} else {
				stayed++
			}
		}
		if moved += len(want); !slices.Equal(moves, want) {
			t.Fatal(s, w, moves, want)
		}
	})
	if moved < 100 || stayed < 100 {
		t.Error("too few sources move or stay:", moved, stayed)
	}
}

func TestMovesOfAGreatSystem(t *testing.T) {
	r := rand.New(rand.NewSource(10))
	s := fullSystem(r)
	w := randomWeights(r, api.MaxUnknowns, api.MaxSum/65)
	lo, hi, _ := bound.Range(s, w)
	moves, e := bound.Moves(s, w)
	mustHold(t, e)
	for i, source := range bound.Sources(s) {
		if i%9 > 0 { // some are enough
			continue
		}
		l, h, e := bound.Range(without(s, func(_ int, l api.Limit) bool { return l.By == source }), w)
		if (e != api.OK || l != lo || h != hi) != slices.Contains(moves, source) {
			t.Error(source, l, h, e)
		}
	}
}

func TestConflictExamples(t *testing.T) {
	s := openExample()
	if l, e := bound.Conflict(s); !slices.Equal(l, []int{4, 9}) || e != api.OK {
		t.Error(l, e)
	}
	for _, s := range []api.System{{}, {Many: api.MaxUnknowns}, example(), looseExample(), chainSystem(5)} {
		if l, e := bound.Conflict(s); len(l) != 0 || e != api.ErrNone {
			t.Error(l, e)
		}
	}
	// Several limits of one source contradict each other alone.
	alone := example()
	alone.Limits[6] = api.Limit{A: 2, B: 1, Most: -4, By: 2}
	if l, e := bound.Conflict(alone); !slices.Equal(l, []int{2}) || e != api.OK {
		t.Error(l, e)
	}
	// Of several conflicts the one that leaves out the greatest sources.
	two := api.System{Many: 1, Limits: []api.Limit{
		{A: 0, B: 1, Most: 5, By: 30}, {A: 1, B: 0, Most: -6, By: 40}, {A: 0, B: 1, Most: 5, By: 20}, {A: 1, B: 0, Most: -6, By: 10},
	}}
	if l, e := bound.Conflict(two); !slices.Equal(l, []int{10, 20}) || e != api.OK {
		t.Error(l, e)
	}
	if l, e := bound.Conflict(bound.Without(two, []int{10})); !slices.Equal(l, []int{20, 40}) || e != api.OK {
		t.Error(l, e)
	}
}

func TestCheckConflict(t *testing.T) {
	s := openExample()
	mustHold(t, bound.CheckConflict(s, []int{4, 9}))
	for _, by := range [][]int{nil, {}, {4}, {9}, {9, 4}, {4, 4, 9}, {4, 9, 9}, {1, 4, 9}, {4, 9, 10}, {-1, 4, 9}, {1, 2, 3}, {1, 2, 3, 4, 9}, {1, 2, 9}, {5, 9}} {
		if e := bound.CheckConflict(s, by); e != api.ErrConflict {
			t.Error(by, e)
		}
	}
	for _, s := range []api.System{{}, example(), looseExample()} {
		for _, by := range [][]int{nil, {1}, {1, 2}, bound.Sources(s)} {
			if e := bound.CheckConflict(s, by); e != api.ErrConflict {
				t.Error(by, e)
			}
		}
	}
	if e := bound.CheckConflict(api.System{Many: -1}, nil); e != api.ErrSystem {
		t.Error(e)
	}
}

// TestConflicts is P2.7: what Conflict returns cannot all be right, and if
// any one of them is left out, what the others say is sound. Which ones they
// are is said by the chapter.
func TestConflicts(t *testing.T) {
	open := 0
	smallSystems(func(r *rand.Rand, s api.System) {
		got, e := bound.Conflict(s)
		if isSound(s) {
			if len(got) != 0 || e != api.ErrNone {
				t.Fatal(s, got, e)
			}
			return
		}
		open++
		want := bound.Sources(s)
		for i := len(want) - 1; i >= 0; i-- {
			if less := slices.Concat(want[:i], want[i+1:]); isOpenBy(s, less) {
				want = less
			}
		}
		if e != api.OK || !slices.Equal(got, want) || bound.CheckConflict(s, got) != api.OK {
			t.Fatal(s, got, want, e)
		}
		for i := range got {
			if isOpenBy(s, slices.Concat(got[:i], got[i+1:])) {
				t.Fatal(s, got, i)
			}
		}
		mustRefuseOthers(t, r, s)
	})
	if open < 100 {
		t.Error("too few systems are open:", open)
	}
}

// mustRefuseOthers holds CheckConflict against the chapter, for any sources.
func mustRefuseOthers(t *testing.T, r *rand.Rand, s api.System) {
	t.Helper()
	var by []int
	for _, source := range bound.Sources(s) {
		if r.Intn(2) == 0 {
			by = append(by, source)
		}
	}
	want := isOpenBy(s, by)
	for i := range by {
		want = want && !isOpenBy(s, slices.Concat(by[:i], by[i+1:]))
	}
	if ok := bound.CheckConflict(s, by) == api.OK; ok != want {
		t.Fatal(s, by, ok)
	}
}

func TestConflictOfAGreatSystem(t *testing.T) {
	s := chainSystem(4)
	if l, e := bound.Conflict(s); len(l) != 0 || e != api.ErrNone {
		t.Error(l, e)
	}
	// With one limit more, which all limits upwards contradict.
	s.Limits = append(s.Limits, api.Limit{A: api.MaxUnknowns, B: 0, Most: -4*api.MaxUnknowns - 1, By: 500})
	l, e := bound.Conflict(s)
	if e != api.OK || len(l) != api.MaxUnknowns+1 || l[0] != 1 || l[63] != 64 || l[64] != 500 {
		t.Error(l, e)
	}
	mustHold(t, bound.CheckConflict(s, l))
	for len(s.Limits) < api.MaxLimits {
		s.Limits = append(s.Limits, api.Limit{A: 1, B: 2, Most: api.MaxMost, By: 600 + len(s.Limits)})
	}
	if m, e := bound.Conflict(s); e != api.OK || !slices.Equal(m, l) {
		t.Error(m, e)
	}
}
