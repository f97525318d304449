package probe_test

import (
	"math"
	"math/rand"
	"slices"
	"testing"

	"moorsom/api"
	"moorsom/probe"
)

func TestChoices(t *testing.T) {
	two, e := probe.Choices(2)
	if !sameLists(two, [][]int{{}, {0}, {1}, {0, 1}}) || e != api.OK {
		t.Error(two, e)
	}
	for n, many := range []int{1, 2, 4, 8, 15, 26, 42, 64, 93} {
		l, e := probe.Choices(n)
		if len(l) != many || !sameLists(l, choices(n)) || e != api.OK {
			t.Error(n, l, e)
		}
	}
	for _, n := range []int{-1, 9, math.MinInt, math.MaxInt} {
		if l, e := probe.Choices(n); len(l) != 0 || e != api.ErrArg {
			t.Error(n, l, e)
		}
	}
}

func TestBest(t *testing.T) {
	l := exampleProbes()
	for _, c := range []struct {
		l    []api.Probe
		want int
		e    api.Errno
	}{
		{l, 2, api.OK}, {l[:2], 0, api.OK}, {[]api.Probe{l[1], l[0]}, 0, api.OK}, {[]api.Probe{l[0], l[2], l[2]}, 1, api.OK},
		{l[1:], 1, api.OK}, {nil, 0, api.ErrNone}, {[]api.Probe{}, 0, api.ErrNone},
	} {
		if i, e := probe.Best(example(8), c.l); i != c.want || e != c.e {
			t.Error(c, i, e)
		}
	}
	asks(t, 81, 200, 8, func(m maker, q listed, l []api.Probe) {
		i, e := probe.Best(q.Ask, l)
		if len(l) == 0 {
			if i != 0 || e != api.ErrNone {
				t.Fatal(i, e)
			}
			return
		}
		for k := range l {
			best, other := q.worst(l[i:i+1]), q.worst(l[k:k+1])
			if e != api.OK || other < best || k < i && other == best {
				t.Fatal(q.Ask, l, i, k, e)
			}
		}
	})
}

func TestFewestOfExample(t *testing.T) {
	l := exampleProbes()
	for _, c := range []struct {
		width  int
		l      []api.Probe
		probes []int
		worst  int
		fails  int
	}{
		{8, l, []int{0}, 7, 1}, {4, l, []int{2}, 3, 3}, // the chapter's
		{7, l, []int{0}, 7, 1}, {6, l, []int{2}, 3, 3}, {3, l, []int{2}, 3, 3}, {2, l, []int{0, 2}, 2, 5},
		{23, l, nil, 23, 0}, {1000, l, nil, 23, 0}, {23, nil, nil, 23, 0}, {22, l[1:], []int{0}, 7, 1},
	} {
		q := example(c.width)
		pick, e := probe.Fewest(q, c.l)
		if !slices.Equal(pick.Probes, c.probes) || pick.Width != c.worst || pick.Proof.Bound != c.worst || len(pick.Fails) != c.fails || e != api.OK {
			t.Error(c, pick, e)
		}
		mustHold(t, probe.CheckPick(q, c.l, pick), c)
	}
	for _, width := range []int{1, 0} {
		if pick, e := probe.Fewest(example(width), l); !samePick(pick, api.Pick{}) || e != api.ErrWide {
			t.Error(width, pick, e)
		}
	}
	if pick, e := probe.Fewest(example(22), nil); !samePick(pick, api.Pick{}) || e != api.ErrWide {
		t.Error(pick, e)
	}
}

// TestThreeProbes: no choice has more than three probes.
func TestThreeProbes(t *testing.T) {
	q := free(4, 10)
	var l []api.Probe
	for i := range 8 {
		l = append(l, api.Probe{Unknown: 1 + i%4, Tolerance: i / 4})
	}
	for _, c := range []struct {
		width  int
		probes []int
		fails  int
	}{
		{80, nil, 0}, {79, []int{0}, 1}, {40, []int{0, 1}, 9}, {20, []int{0, 1, 2}, 37}, {26, []int{0, 1, 2}, 37},
	} {
		q.Width = c.width
		pick, e := probe.Fewest(q, l)
		if !slices.Equal(pick.Probes, c.probes) || len(pick.Fails) != c.fails || e != api.OK {
			t.Error(c, pick, e)
		}
		mustHold(t, probe.CheckPick(q, l, pick), c)
	}
	// All four settle it, and three of them do not.
	q.Width = 19
	if n := worstOf(t, q, l[:4]); n != 0 {
		t.Error(n)
	}
	if pick, e := probe.Fewest(q, l); !samePick(pick, api.Pick{}) || e != api.ErrWide {
		t.Error(pick, e)
	}
	// The last choice of all is found too.
	q.Width = 20
	last := slices.Concat(slices.Repeat([]api.Probe{{Unknown: 4, Tolerance: 20}}, 5), l[:3])
	pick, e := probe.Fewest(q, last)
	if !slices.Equal(pick.Probes, []int{5, 6, 7}) || len(pick.Fails) != 92 || pick.Width != 20 || e != api.OK {
		t.Error(pick, e)
	}
	mustHold(t, probe.CheckPick(q, last, pick))
}

// thoughtPick is the first choice that settles a question whose hulls are
// listed, and how many are ahead of it.
func thoughtPick(q listed, l []api.Probe) ([]int, int, bool) {
	for i, choice := range choices(len(l)) {
		if q.worst(of(l, choice)) <= q.Width {
			return choice, i, true
		}
	}
	return nil, 0, false
}

// TestFewest is P9.3.
func TestFewest(t *testing.T) {
	found := map[int]int{}
	asks(t, 82, 1000, 5, func(m maker, q listed, l []api.Probe) {
		want, ahead, settles := thoughtPick(q, l)
		pick, e := probe.Fewest(q.Ask, l)
		if !settles {
			if e != api.ErrWide || !samePick(pick, api.Pick{}) {
				t.Fatal(q.Ask, l, pick, e)
			}
			return
		}
		found[len(want)]++
		if !slices.Equal(pick.Probes, want) || len(pick.Fails) != ahead || pick.Width != q.worst(of(l, want)) || e != api.OK {
			t.Fatal(q.Ask, l, pick, want, e)
		}
		mustHold(t, probe.CheckPick(q.Ask, l, pick), q.Ask, l, pick)
		mustHold(t, probe.CheckWorst(q.Ask, of(l, want), pick.Width, pick.Proof), q.Ask, l, pick)
		for i, twins := range pick.Fails {
			picked := of(l, choices(len(l))[i])
			if sum(q.Weights, twins.B)-sum(q.Weights, twins.A) <= q.Width || !alike(picked, twins.A, twins.B) ||
				!isPoint(q.System, twins.A) || !isPoint(q.System, twins.B) {
				t.Fatal(q.Ask, l, i, twins)
			}
		}
		// Whatever is told settles it.
		for range 20 {
			picked := of(l, want)
			o := m.told(q.hulls[m.Intn(len(q.hulls))], picked)
			a, e := probe.After(q.Ask, picked, o)
			mustHold(t, e, q.Ask, picked, o)
			if settled, e := probe.Settled(a); !settled || e != api.OK {
				t.Fatal(q.Ask, picked, o, e)
			}
		}
	})
	if found[0] < 20 || found[1] < 20 || found[2] < 10 {
		t.Error("too few picks", found)
	}
}

// spoiledPicks are changed ones of a pick of the chapter's question with the
// width 4, none of which shows anything.
func spoiledPicks(pick api.Pick) []api.Pick {
	var all []api.Pick
	change := func(to func(p *api.Pick)) {
		p := pick
		p.Fails = slices.Clone(pick.Fails)
		p.Proof.Uses = slices.Clone(pick.Proof.Uses)
		to(&p)
		all = append(all, p)
	}
	for _, probes := range [][]int{nil, {0}, {1}, {3}, {-1}, {2, 2}, {0, 2}, {2, 0}, {0, 1, 2}, {0, 1, 2, 3}, {math.MaxInt}, {math.MinInt}} {
		change(func(p *api.Pick) { p.Probes = probes })
	}
	for _, width := range []int{pick.Width - 1, -1, 5, 23, math.MaxInt, math.MinInt} {
		change(func(p *api.Pick) { p.Width = width })
	}
	change(func(p *api.Pick) { p.Proof = api.Proof{} })
	change(func(p *api.Pick) { p.Proof.Bound++ })
	change(func(p *api.Pick) { p.Proof.Bound-- })
	change(func(p *api.Pick) { p.Proof.Uses = p.Proof.Uses[1:] })
	change(func(p *api.Pick) { p.Fails = nil })
	change(func(p *api.Pick) { p.Fails = p.Fails[1:] })
	change(func(p *api.Pick) { p.Fails = p.Fails[:2] })
	change(func(p *api.Pick) { p.Fails = append(p.Fails, p.Fails[0]) })
	change(func(p *api.Pick) { p.Fails = slices.Insert(p.Fails, 0, p.Fails[0]) })
	change(func(p *api.Pick) { p.Fails = slices.Repeat(p.Fails, 50) })
	narrow := api.Twins{A: []int{0, 4, 4}, B: []int{0, 6, 6}} // by 4, which is not too wide
	for i, twins := range pick.Fails {
		for _, to := range []api.Twins{
			{}, {A: twins.A}, {B: twins.B}, {A: twins.B, B: twins.A}, {A: twins.A, B: twins.A}, narrow, {A: []int{0, 0, 0}, B: []int{0, 11, 13}},
			{A: twins.A[1:], B: twins.B[1:]}, {A: []int{1, 4, 4}, B: twins.B},
		} {
			change(func(p *api.Pick) { p.Fails[i] = to })
		}
	}
	// Twins that the probe of the choice parts.
	apart := api.Twins{A: []int{0, 0, 0}, B: []int{0, 10, 13}}
	change(func(p *api.Pick) { p.Fails[1] = apart })
	change(func(p *api.Pick) { p.Fails[2] = apart })
	return all
}

func TestCheckPick(t *testing.T) {
	q, l := example(4), exampleProbes()
	pick, e := probe.Fewest(q, l)
	mustHold(t, e)
	mustHold(t, probe.CheckPick(q, l, pick))
	for i, p := range spoiledPicks(pick) {
		if e := probe.CheckPick(q, l, p); e != api.ErrPick {
			t.Error(i, p, e)
		}
	}
	// The width may be any that the proof shows and that is not too wide, and
	// twins any that are wide enough.
	pick.Width = 4
	mustHold(t, probe.CheckPick(q, l, pick))
	pick.Fails[0] = api.Twins{A: []int{0, 2, 2}, B: []int{0, 4, 5}}
	mustHold(t, probe.CheckPick(q, l, pick))
	none, e := probe.Fewest(example(23), l)
	mustHold(t, e)
	mustHold(t, probe.CheckPick(example(23), nil, none))
	if e := probe.CheckPick(q, l, api.Pick{}); e != api.ErrPick {
		t.Error(e)
	}
}

// TestNoPickAtAll: where no choice settles the question, what is none is not
// accepted either, though all choices have twins.
func TestNoPickAtAll(t *testing.T) {
	q, l := example(1), exampleProbes()
	var pick api.Pick
	for _, choice := range choices(3) {
		twins, _, e := probe.Show(q, of(l, choice))
		mustHold(t, e)
		pick.Fails = append(pick.Fails, twins)
	}
	n, p, e := probe.Worst(q, l)
	mustHold(t, e)
	pick.Width, pick.Proof = n, p
	for _, probes := range [][]int{nil, {3}, {-1}, {0, 1, 2}, {0, 1, 3}, {2, 1}, {1, 1}, {0, 1, 2, 3}} {
		for _, width := range []int{1, n} {
			pick.Probes, pick.Width = probes, width
			if e := probe.CheckPick(q, l, pick); e != api.ErrPick {
				t.Error(probes, width, e)
			}
		}
	}
}

// TestNoOtherPick: no other choice is accepted, also where it settles the
// question, has its own proof, and what is ahead of it has twins.
func TestNoOtherPick(t *testing.T) {
	m := maker{rand.New(rand.NewSource(83))}
	for range 200 {
		q := m.ask()
		l := m.probes(q, 4)
		first, e := probe.Fewest(q, l)
		for i, choice := range choices(len(l)) {
			picked := of(l, choice)
			n, p, e1 := probe.Worst(q, picked)
			mustHold(t, e1)
			other := api.Pick{Probes: choice, Width: n, Proof: p}
			for _, ahead := range choices(len(l))[:i] {
				twins, _, e1 := probe.Show(q, of(l, ahead))
				mustHold(t, e1)
				other.Fails = append(other.Fails, twins)
			}
			want := api.ErrPick
			if e == api.OK && slices.Equal(choice, first.Probes) {
				want = api.OK
			}
			if e := probe.CheckPick(q, l, other); e != want {
				t.Fatal(q, l, other, e, want)
			}
		}
	}
}
