package bound_test

import (
	"math"
	"math/rand"
	"slices"
	"testing"

	"moorsom/api"
	"moorsom/bound"
)

// TestInvalidSystems is R1 and R2: the error of Check comes first, whatever
// else is wrong, and nothing is beside it.
func TestInvalidSystems(t *testing.T) {
	for _, c := range invalidSystems() {
		outcomes := append(unweighted(c.s), weighted(c.s, []int{math.MinInt}, 0)...)
		carried, e := bound.Carry(c.s, nil, api.Proof{Bound: 5}, nil)
		outcomes = append(outcomes, outcome{"Carry", e, []any{carried}}, outcome{"CheckProof", bound.CheckProof(c.s, nil, api.Proof{Bound: 5}), nil})
		for _, o := range outcomes {
			if o.e != c.e || !o.zero() {
				t.Error(c.s.Many, len(c.s.Limits), o, "want", c.e)
			}
		}
	}
}

// TestInvalidWeights has weights that are none, in sound, loose and open
// systems: their error comes ahead of those of what the system says.
func TestInvalidWeights(t *testing.T) {
	half := api.MaxSum / 2
	for _, s := range []api.System{example(), openExample(), {Many: 3}} {
		for _, w := range [][]int{
			nil, {}, {0}, {0, 1, 1}, {0, 1, 1, 1, 1}, make([]int, 66),
			{0, api.MaxSum + 1, 0, 0}, {0, -api.MaxSum - 1, 0, 0}, {1, api.MaxSum, 0, 0}, {api.MaxSum, 0, 0, -1},
			{0, half, -half, 1}, {0, math.MinInt, 0, 0}, {math.MinInt, math.MinInt, 0, 0}, {0, math.MaxInt, math.MaxInt, 2},
		} {
			outcomes := weighted(s, w, math.MaxInt)
			carried, e := bound.Carry(s, w, api.Proof{Bound: 5}, nil)
			outcomes = append(outcomes, outcome{"Carry", e, []any{carried}}, outcome{"CheckProof", bound.CheckProof(s, w, api.Proof{Bound: 5}), nil})
			for _, o := range outcomes {
				if o.e != api.ErrWeight || !o.zero() {
					t.Error(w, o)
				}
			}
		}
	}
	// Open systems clash, also where nothing would bound the sum.
	s := api.System{Many: 3, Limits: []api.Limit{{A: 1, B: 2, Most: -1, By: 1}, {A: 2, B: 1, Most: 0, By: 1}}}
	for _, w := range [][]int{{0, 1, 1, -2}, {0, 0, 0, 1}, {0, 0, 0, 0}, {0, half, -half, 0}} {
		for _, o := range weighted(s, w, math.MaxInt) {
			if o.e != api.ErrClash || !o.zero() {
				t.Error(w, o)
			}
		}
	}
}

func TestOpenSystemsClash(t *testing.T) {
	want := map[string]api.Errno{
		"Close": api.ErrClash, "Point": api.ErrClash, "Idle": api.ErrClash, "Cycle": api.OK, "Conflict": api.OK, "With": api.ErrLimit,
		"Rests": api.ErrProof, "CheckCycle": api.ErrLimit, "CheckPoint": api.ErrPoint, "CheckConflict": api.ErrConflict,
	}
	for _, o := range unweighted(openExample()) {
		if o.e != want[o.name] || o.e != api.OK && !o.zero() {
			t.Error(o)
		}
	}
}

func TestOneLimitMore(t *testing.T) {
	// Systems that are open by one limit more, of the greatest numbers too.
	r := rand.New(rand.NewSource(11))
	for range 8 {
		s := fullSystem(r)
		s.Limits = s.Limits[1:]
		c, e := bound.Close(s)
		mustHold(t, e)
		a, b := r.Intn(65), r.Intn(64)
		if b >= a {
			b++
		}
		for slack, want := range map[int]api.Errno{0: api.OK, -1: api.ErrClash} {
			more, e := bound.With(s, api.Limit{A: b, B: a, Most: -c[a][b] + slack, By: 99999})
			if e != api.OK { // farther than a limit may reach
				continue
			}
			if x, e := bound.Point(more, nil); e != want || e == api.OK && (!keeps(more, x) || x[b]-x[a] != c[a][b]) {
				t.Error(e, want)
			}
			if by, e := bound.Conflict(more); want == api.ErrClash && (e != api.OK || !slices.Contains(by, 99999) || bound.CheckConflict(more, by) != api.OK) {
				t.Error(by, e)
			}
		}
	}
}

// TestArgumentsAreNotChanged is R4.
func TestArgumentsAreNotChanged(t *testing.T) {
	s, w, picks := example(), []int{7, 1, 1, -2}, []int{3, 2, 1}
	by, x := []int{9, 4, 2, 2}, []int{0, 4, 4, 0}
	p := api.Proof{Bound: 22, Uses: []api.Use{{Limit: 0, Times: 1}, {Limit: 5, Times: 2}, {Limit: 6, Times: 1}}}
	for _, s := range []api.System{s, openExample()} {
		kept := api.System{Many: s.Many, Limits: slices.Clone(s.Limits)}
		unweighted(s)
		weighted(s, w, 0)
		bound.Point(s, picks)
		bound.CheckPoint(s, x)
		bound.Value(w, x)
		bound.CheckProof(s, w, p)
		bound.Rests(s, p)
		bound.Carry(s, w, p, by)
		bound.Without(s, by)
		bound.Sources(s)
		bound.CheckConflict(s, by)
		bound.CheckCycle(s, by)
		if !sameSystem(s, kept) {
			t.Error(s, kept)
		}
	}
	if !slices.Equal(w, []int{7, 1, 1, -2}) || !slices.Equal(picks, []int{3, 2, 1}) || !slices.Equal(by, []int{9, 4, 2, 2}) || !slices.Equal(x, []int{0, 4, 4, 0}) {
		t.Error(w, picks, by, x)
	}
	if p.Bound != 22 || !slices.Equal(p.Uses, []api.Use{{Limit: 0, Times: 1}, {Limit: 5, Times: 2}, {Limit: 6, Times: 1}}) {
		t.Error(p)
	}
}

// TestResultsAreNew is R4 too: whoever writes into a result changes nothing else.
func TestResultsAreNew(t *testing.T) {
	s, w := example(), []int{0, -1, 1, 0}

	rows, _ := bound.Close(s)
	want, _ := apart(s)
	for i, row := range rows {
		spoil(row)
		for k := i + 1; k < len(rows); k++ {
			if !slices.Equal(rows[k], want[k]) {
				t.Error("rows of Close", i, k)
			}
		}
	}
	first, second, _, _, _ := bound.Between(s, w, 0)
	spoil(first)
	if !keeps(s, second) {
		t.Error("Between", second)
	}
	// Both ends are one point, and yet two lists.
	first, second, _, _, _ = bound.Between(s, make([]int, 4), 0)
	spoil(first)
	if !keeps(s, second) {
		t.Error("Between", second)
	}

	room := make([]api.Limit, 7, 20)
	copy(room, s.Limits)
	r := api.System{Many: 3, Limits: room}
	one, _ := bound.With(r, api.Limit{A: 2, B: 0, Most: 1, By: 9})
	two, _ := bound.With(r, api.Limit{A: 2, B: 0, Most: 2, By: 9})
	if one.Limits[7].Most != 1 || two.Limits[7].Most != 2 || room[:8][7] != (api.Limit{}) {
		t.Error("With writes behind its argument")
	}
	all := bound.Without(s, nil)
	for _, got := range []api.System{one, all} {
		for i := range got.Limits[:cap(got.Limits)] {
			got.Limits[:cap(got.Limits)][i] = api.Limit{}
		}
	}
	if !sameSystem(s, example()) || !slices.Equal(room, s.Limits) {
		t.Error("With or Without", s, room)
	}

	p, _ := bound.Prove(s, w)
	q, _ := bound.Carry(s, w, p, nil)
	kept := slices.Clone(p.Uses)
	for i := range q.Uses {
		q.Uses[i] = api.Use{}
	}
	if !slices.Equal(p.Uses, kept) {
		t.Error("Carry", p)
	}
}

// TestSameAgain: the result of a call depends on its arguments alone.
func TestSameAgain(t *testing.T) {
	r := rand.New(rand.NewSource(12))
	s := fullSystem(r)
	w := randomWeights(r, api.MaxUnknowns, 1000)
	x, _ := bound.Best(s, w)
	p, _ := bound.Prove(s, w)
	for range 3 {
		y, _ := bound.Best(s, w)
		q, _ := bound.Prove(s, w)
		if !slices.Equal(x, y) || !sameProof(p, q) {
			t.Error(x, y, p, q)
		}
	}
}

// anyInt is a number that may be anything, often one near a limit.
func anyInt(r *rand.Rand) int {
	edges := []int{0, 1, 64, 65, api.MaxMost, -api.MaxMost, api.MaxSource, api.MaxSum, -api.MaxSum, api.Free, farthest, -farthest, math.MaxInt, math.MinInt}
	switch r.Intn(8) {
	case 0:
		return int(r.Uint64())
	case 1:
		return edges[r.Intn(len(edges))] + r.Intn(3) - 1
	default:
		return r.Intn(7) - 1
	}
}

func anyList(r *rand.Rand) []int {
	l := make([]int, r.Intn(7))
	for i := range l {
		l[i] = anyInt(r)
	}
	return l
}

func anySystem(r *rand.Rand) api.System {
	if r.Intn(3) > 0 {
		return randomSystem(r, r.Intn(6), r.Intn(12), 1+r.Intn(20000), r.Intn(4))
	}
	s := api.System{Many: anyInt(r)}
	for range r.Intn(9) {
		s.Limits = append(s.Limits, api.Limit{A: anyInt(r), B: anyInt(r), Most: anyInt(r), By: anyInt(r)})
	}
	return s
}

// TestAnyArguments is P1: no call panics, and with an error there are no
// other results.
func TestAnyArguments(t *testing.T) {
	r := rand.New(rand.NewSource(13))
	for range 20000 {
		s, w, l := anySystem(r), anyList(r), anyList(r)
		p := api.Proof{Bound: anyInt(r)}
		for range r.Intn(5) {
			p.Uses = append(p.Uses, api.Use{Limit: anyInt(r), Times: anyInt(r)})
		}
		bound.CheckLimit(anyInt(r), api.Limit{A: anyInt(r), B: anyInt(r), Most: anyInt(r), By: anyInt(r)})
		outcomes := append(unweighted(s), weighted(s, w, anyInt(r))...)
		x, e1 := bound.Point(s, l)
		n, e2 := bound.Value(w, l)
		rests, e3 := bound.Rests(s, p)
		carried, e4 := bound.Carry(s, w, p, l)
		with, e5 := bound.With(s, api.Limit{A: anyInt(r), B: anyInt(r), Most: anyInt(r), By: anyInt(r)})
		outcomes = append(outcomes, outcome{"Point", e1, []any{x}}, outcome{"Value", e2, []any{n}}, outcome{"Rests", e3, []any{rests}},
			outcome{"Carry", e4, []any{carried}}, outcome{"With", e5, []any{with}})
		bound.Check(s)
		bound.CheckCycle(s, l)
		bound.CheckPoint(s, l)
		bound.CheckProof(s, w, p)
		bound.CheckConflict(s, l)
		bound.Sources(s)
		bound.Without(s, l)
		for _, o := range outcomes {
			if o.e != api.OK && !o.zero() {
				t.Fatal(s, w, l, p, o)
			}
		}
	}
}
