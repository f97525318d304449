package bound_test

import (
	"math"
	"math/rand"
	"slices"
	"testing"

	"moorsom/api"
	"moorsom/bound"
)

var exampleWeights = []int{0, 1, 1, -2}

func TestProofExamples(t *testing.T) {
	s := example()
	least := api.Proof{Bound: 22, Uses: []api.Use{{Limit: 0, Times: 1}, {Limit: 5, Times: 2}, {Limit: 6, Times: 1}}}
	more := api.Proof{Bound: 23, Uses: []api.Use{{Limit: 0, Times: 2}, {Limit: 2, Times: 1}, {Limit: 5, Times: 2}}}
	mustHold(t, bound.CheckProof(s, exampleWeights, least))
	mustHold(t, bound.CheckProof(s, exampleWeights, more))
	if p, e := bound.Prove(s, exampleWeights); p.Bound != 22 || !shows(s, exampleWeights, p) || e != api.OK {
		t.Error(p, e)
	}
	if l, e := bound.Rests(s, least); !slices.Equal(l, []int{1, 3, 4}) || e != api.OK {
		t.Error(l, e)
	}
	// The weight of the unknown 0 counts for nothing; the system need not be sound.
	mustHold(t, bound.CheckProof(s, []int{9, 1, 1, -2}, least))
	mustHold(t, bound.CheckProof(openExample(), exampleWeights, least))
	// No proof shows nothing of no weights, in any system.
	mustHold(t, bound.CheckProof(api.System{}, []int{3}, api.Proof{}))
	mustHold(t, bound.CheckProof(s, []int{3, 0, 0, 0}, api.Proof{Uses: []api.Use{}}))
	// A circle of limits is a proof of nothing too, with a bound above the least one.
	mustHold(t, bound.CheckProof(s, []int{0, 0, 0, 0}, api.Proof{Bound: 18, Uses: []api.Use{{Limit: 0, Times: 3}, {Limit: 1, Times: 3}}}))
}

func TestCheckProofRefuses(t *testing.T) {
	s := example()
	for _, p := range []api.Proof{
		{},
		{Bound: 22},
		{Bound: 21, Uses: uses(0, 1, 5, 2, 6, 1)},
		{Bound: 23, Uses: uses(0, 1, 5, 2, 6, 1)},
		{Bound: math.MinInt, Uses: uses(0, 1, 5, 2, 6, 1)},
		{Bound: 22, Uses: uses(5, 2, 0, 1, 6, 1)},        // not rising
		{Bound: 22, Uses: uses(0, 1, 5, 1, 5, 1, 6, 1)},  // not rising
		{Bound: 22, Uses: uses(0, 1, 5, 2, 6, 1, 6, 0)},  // Times
		{Bound: 22, Uses: uses(0, 1, 3, 0, 5, 2, 6, 1)},  // Times
		{Bound: 22, Uses: uses(0, 1, 5, 2, 6, 1, 7, 1)},  // no such limit
		{Bound: 22, Uses: uses(-1, 1, 0, 1, 5, 2, 6, 1)}, // no such limit
		{Bound: 0, Uses: uses(0, 1, 5, 1, 6, 1)},         // other weights
		{Bound: 12, Uses: uses(5, 2, 6, 1)},              // other weights
		{Bound: 25, Uses: uses(0, 1, 2, 1, 5, 2, 6, 1)},  // other weights
		{Bound: -22, Uses: uses(0, -1, 5, -2, 6, -1)},    // the negatives
		{Bound: 22, Uses: uses(math.MinInt, 1, math.MaxInt, 1)},
		{Bound: 22, Uses: uses(0, math.MinInt, 5, math.MaxInt)},
		{Bound: 22, Uses: uses(0, 1, 1, api.MaxSum+1, 5, 2)},
		{Bound: 22, Uses: uses(0, 1<<62, 1, 1<<62, 2, 1<<62)},
	} {
		if e := bound.CheckProof(s, exampleWeights, p); e != api.ErrProof {
			t.Error(p, e)
		}
	}
}

// TestProofLimits has proofs that use limits as often as they may.
func TestProofLimits(t *testing.T) {
	// So many limits from the unknown 0 to the unknown 1, and as many back.
	s := api.System{Many: 1}
	for i := range api.MaxLimits {
		s.Limits = append(s.Limits, api.Limit{A: i % 2, B: 1 - i%2, Most: api.MaxMost, By: 1 + i})
	}
	w := []int{0, 0}
	taken := func(many, times int) api.Proof {
		p := api.Proof{Bound: many * times * api.MaxMost}
		for i := range many {
			p.Uses = append(p.Uses, api.Use{Limit: i, Times: times})
		}
		return p
	}
	mustHold(t, bound.CheckProof(s, w, taken(api.MaxUses, 1)))
	mustHold(t, bound.CheckProof(s, w, taken(2, api.MaxSum)))
	mustHold(t, bound.CheckProof(s, w, taken(64, api.MaxSum)))
	mustHold(t, bound.CheckProof(s, w, taken(api.MaxUses, api.MaxSum/25*4)))
	for _, p := range []api.Proof{
		taken(2, api.MaxSum+1), taken(66, api.MaxSum), taken(api.MaxUses, api.MaxSum), taken(api.MaxUses, api.MaxSum/25*4+1),
		{Uses: slices.Repeat([]api.Use{{Limit: 0, Times: 1}}, api.MaxUses+1)},
		{Uses: append(taken(api.MaxUses, 1).Uses, api.Use{Limit: api.MaxUses, Times: 1})},
	} {
		if e := bound.CheckProof(s, w, p); e != api.ErrProof {
			t.Error(p, e)
		}
	}
}

// spoiled is a proof with something changed.
func spoiled(r *rand.Rand, p api.Proof, limits int) api.Proof {
	p.Uses = slices.Clone(p.Uses)
	for range 1 + r.Intn(3) {
		switch r.Intn(5) {
		case 0:
			p.Bound += r.Intn(7) - 3
		case 1:
			at := r.Intn(len(p.Uses) + 1)
			p.Uses = slices.Insert(p.Uses, at, api.Use{Limit: r.Intn(limits+2) - 1, Times: r.Intn(4)})
		case 2:
			if len(p.Uses) > 0 {
				p.Uses[r.Intn(len(p.Uses))].Times += r.Intn(5) - 2
			}
		case 3:
			if len(p.Uses) > 0 {
				p.Uses[r.Intn(len(p.Uses))].Limit = r.Intn(limits+2) - 1
			}
		case 4:
			if len(p.Uses) > 0 {
				at := r.Intn(len(p.Uses))
				p.Uses = slices.Delete(p.Uses, at, at+1)
			}
		}
	}
	return p
}

// TestNoProofOfLess is P2.3: whatever is accepted is a proof, and its bound
// is at least each sum.
func TestNoProofOfLess(t *testing.T) {
	accepted := 0
	soundSystems(func(r *rand.Rand, s api.System) {
		w := randomWeights(r, s.Many, 2)
		p, e := bound.Prove(s, w)
		if e != api.OK {
			p = api.Proof{}
		}
		for range 40 {
			q := spoiled(r, p, len(s.Limits))
			ok := bound.CheckProof(s, w, q) == api.OK
			if ok != shows(s, w, q) {
				t.Fatal(s, w, q, ok)
			}
			if !ok {
				continue
			}
			accepted++
			if e != api.OK || q.Bound < p.Bound {
				t.Fatal(s, w, q, p, e)
			}
		}
	})
	if accepted < 100 {
		t.Error("too few proofs are accepted:", accepted)
	}
}

func TestRests(t *testing.T) {
	s := example()
	for _, c := range []struct {
		uses []api.Use
		want []int
		e    api.Errno
	}{
		{nil, nil, api.OK},
		{uses(6, 1, 0, 1, 1, 1, 6, 1), []int{1, 4}, api.OK},
		{uses(5, -4, 2, 0), []int{2, 3}, api.OK}, // whatever else it says
		{slices.Repeat(uses(3, 1), api.MaxUses+5), []int{2}, api.OK},
		{uses(0, 1, 7, 1), nil, api.ErrProof},
		{uses(-1, 1, 0, 1), nil, api.ErrProof},
		{uses(math.MaxInt, 1), nil, api.ErrProof},
		{uses(math.MinInt, 1), nil, api.ErrProof},
	} {
		if l, e := bound.Rests(s, api.Proof{Bound: 5, Uses: c.uses}); !slices.Equal(l, c.want) || e != c.e {
			t.Error(c, l, e)
		}
	}
	if l, e := bound.Rests(openExample(), api.Proof{Uses: uses(7, 1)}); !slices.Equal(l, []int{9}) || e != api.OK {
		t.Error(l, e)
	}
	if _, e := bound.Rests(api.System{}, api.Proof{Uses: uses(0, 1)}); e != api.ErrProof {
		t.Error(e)
	}
}

func TestCarryExamples(t *testing.T) {
	s := example()
	p := api.Proof{Bound: 22, Uses: uses(0, 1, 5, 2, 6, 1)}
	for _, c := range []struct {
		by   []int
		want api.Proof
		e    api.Errno
	}{
		{nil, p, api.OK},
		{[]int{77}, p, api.OK},
		{[]int{2}, api.Proof{Bound: 22, Uses: uses(0, 1, 3, 2, 4, 1)}, api.OK},
		{[]int{99, 2, -5, 2}, api.Proof{Bound: 22, Uses: uses(0, 1, 3, 2, 4, 1)}, api.OK},
		{[]int{1}, api.Proof{}, api.ErrNone},
		{[]int{3, 2}, api.Proof{}, api.ErrNone},
		{[]int{2, 4}, api.Proof{}, api.ErrNone},
	} {
		got, e := bound.Carry(s, exampleWeights, p, c.by)
		if e != c.e || !sameProof(got, c.want) {
			t.Error(c, got, e)
		}
	}
	q := p
	q.Bound = 21
	if got, e := bound.Carry(s, exampleWeights, q, []int{1}); e != api.ErrProof || !isZero(got) {
		t.Error(got, e)
	}
	if got, e := bound.Carry(s, exampleWeights[1:], q, []int{1}); e != api.ErrWeight || !isZero(got) {
		t.Error(got, e)
	}
	if got, e := bound.Carry(api.System{Many: 99}, nil, q, []int{1}); e != api.ErrSystem || !isZero(got) {
		t.Error(got, e)
	}
	// The system need not be sound.
	if got, e := bound.Carry(openExample(), exampleWeights, p, []int{9}); e != api.OK || !sameProof(got, p) {
		t.Error(got, e)
	}
}

// TestTakenBack is P2.6: what Carry returns is accepted in the smaller
// system; it is refused exactly if the proof rests on a source that is gone;
// with fewer limits no range is narrower.
func TestTakenBack(t *testing.T) {
	carried := 0
	soundSystems(func(r *rand.Rand, s api.System) {
		w := randomWeights(r, s.Many, 3)
		p, e := bound.Prove(s, w)
		if e != api.OK {
			return
		}
		rests, _ := bound.Rests(s, p)
		var by []int
		for _, source := range bound.Sources(s) {
			if r.Intn(3) == 0 {
				by = append(by, source)
			}
		}
		less := bound.Without(s, by)
		q, e := bound.Carry(s, w, p, by)
		if slices.ContainsFunc(rests, func(source int) bool { return slices.Contains(by, source) }) {
			if e != api.ErrNone || !isZero(q) {
				t.Fatal(s, w, p, by, q, e)
			}
		} else {
			carried++
			if e != api.OK || q.Bound != p.Bound || !shows(less, w, q) || bound.CheckProof(less, w, q) != api.OK {
				t.Fatal(s, w, p, by, q, e)
			}
		}
		lo, hi, e := bound.Range(s, w)
		if e != api.OK {
			return
		}
		if l, h, e := bound.Range(less, w); e != api.ErrOpen && (e != api.OK || l > lo || h < hi) {
			t.Fatal(s, w, by, l, h, e)
		}
	})
	if carried < 50 {
		t.Error("too few proofs are carried:", carried)
	}
}
