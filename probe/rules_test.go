package probe_test

import (
	"math"
	"math/rand"
	"slices"
	"testing"

	"moorsom/api"
	"moorsom/probe"
)

// A question has all that functions are asked.
type question struct {
	q     api.Ask
	l     []api.Probe
	o     api.Outcome
	t     api.Twins
	p     api.Proof
	k     api.Pick
	at    int
	width int
	many  int
}

// A fault is what is wrong with a question, by the error that is told.
type fault struct {
	e     api.Errno
	spoil func(q *question)
}

// limits puts others into the place of a question's limits.
func limits(q *question, l ...api.Limit) { q.q.System.Limits = l }

// ofAsk has the faults of a question, and others behind them.
func ofAsk(more ...fault) []fault {
	none := api.Limit{}
	faults := []fault{
		{api.ErrSystem, func(q *question) { q.q.System.Many = 65 }},
		{api.ErrLong, func(q *question) { limits(q, slices.Repeat([]api.Limit{none}, 401)...) }},
		{api.ErrLimit, func(q *question) { limits(q, none) }},
		{api.ErrLong, func(q *question) { q.q.System.Many = 32 }},
		{api.ErrLong, func(q *question) { limits(q, slices.Repeat(between(1, 0, 10, 1), 76)...) }},
		{api.ErrWeight, func(q *question) { q.q.Weights = nil }},
		{api.ErrWeight, func(q *question) { q.q.Weights = []int{900000000001, 0, -900000000000} }},
		{api.ErrAsk, func(q *question) { q.q.Width = -1 }},
		{api.ErrClash, func(q *question) { limits(q, api.Limit{B: 1, Most: -1, By: 1}, api.Limit{A: 1, By: 1}) }},
		{api.ErrOpen, func(q *question) { limits(q, between(1, 0, 10, 1)...) }},
	}
	return append(faults, more...)
}

// ofProbes has the faults of a question with probes, and others behind them.
func ofProbes(more ...fault) []fault {
	faults := ofAsk(
		fault{api.ErrLong, func(q *question) { q.l = slices.Repeat(exampleProbes(), 3) }},
		fault{api.ErrProbe, func(q *question) { q.l = append(exampleProbes(), api.Probe{Unknown: 3}) }},
		fault{api.ErrProbe, func(q *question) { q.l = []api.Probe{{Unknown: 1, Tolerance: 1001}} }},
	)
	return append(faults, more...)
}

// What else may be wrong.
func shortOutcome() fault {
	return fault{api.ErrOutcome, func(q *question) { q.o.Values = q.o.Values[1:] }}
}
func noOutcome() fault {
	return fault{api.ErrOutcome, func(q *question) { q.o.Values = []int{5, 9, 7} }}
}

// full: there is no room for the limits of an outcome.
func full() fault { return fault{api.ErrLong, func(q *question) { q.q = padded(q.q, 150) }} }

// none: there are no probes.
func none() fault     { return fault{api.ErrNone, func(q *question) { q.l = nil }} }
func badProof() fault { return fault{api.ErrProof, func(q *question) { q.p.Bound-- }} }
func tooWide() fault  { return fault{api.ErrWide, func(q *question) { q.width-- }} }

// open: no choice of probes settles the question.
func open() fault { return fault{api.ErrWide, func(q *question) { q.q.Width = 1 }} }
func noPoint() fault {
	return fault{api.ErrPoint, func(q *question) { q.t.A = []int{0, 4, 8} }}
}
func shortPoint() fault { return fault{api.ErrPoint, func(q *question) { q.t.B = q.t.B[:2] }} }
func parted() fault     { return fault{api.ErrOutcome, func(q *question) { q.t.A = []int{0, 4, 6} }} }
func badPick() fault {
	return fault{api.ErrPick, func(q *question) { q.k.Fails = nil }}
}
func tooMany() fault { return fault{api.ErrArg, func(q *question) { q.many = 9 }} }

// noMeeting: an unknown that is none, ahead of twins that are parted.
func noMeeting() fault {
	return fault{api.ErrProbe, func(q *question) { q.l = slices.Insert(slices.Clone(q.l), 0, api.Probe{}) }}
}

// A call is a function with what may be wrong, in the order of the errors.
type call struct {
	name   string
	faults []fault
	// ask returns the error, and whether all other results are zero values.
	ask func(q question) (api.Errno, bool)
}

func calls() []call {
	return slices.Concat(askCalls(), outcomeCalls(), worstCalls(), twinCalls(), pickCalls())
}

func askCalls() []call {
	return []call{
		{"CheckAsk", ofAsk(), func(q question) (api.Errno, bool) { return probe.CheckAsk(q.q), true }},
		{"CheckProbes", ofProbes(), func(q question) (api.Errno, bool) { return probe.CheckProbes(q.q, q.l), true }},
		{"Width", ofAsk(), func(q question) (api.Errno, bool) {
			n, e := probe.Width(q.q)
			return e, n == 0
		}},
		{"Settled", ofAsk(), func(q question) (api.Errno, bool) {
			is, e := probe.Settled(q.q)
			return e, !is
		}},
		{"Side", ofAsk(), func(q question) (api.Errno, bool) {
			n, e := probe.Side(q.q, q.at)
			return e, n == 0
		}},
	}
}

func outcomeCalls() []call {
	return []call{
		{"Values", ofAsk(fault{api.ErrProbe, func(q *question) { q.l = []api.Probe{{}} }}), func(q question) (api.Errno, bool) {
			r, e := probe.Values(q.q, q.l[0])
			return e, r == api.Range{}
		}},
		{"Possible", ofProbes(shortOutcome()), func(q question) (api.Errno, bool) {
			is, e := probe.Possible(q.q, q.l, q.o)
			return e, !is
		}},
		{"After", ofProbes(shortOutcome(), noOutcome(), full()), func(q question) (api.Errno, bool) {
			a, e := probe.After(q.q, q.l, q.o)
			return e, sameAsk(a, api.Ask{})
		}},
	}
}

func worstCalls() []call {
	return []call{
		{"Pairs", ofProbes(), func(q question) (api.Errno, bool) {
			s, w, e := probe.Pairs(q.q, q.l)
			return e, sameSystem(s, api.System{}) && len(w) == 0
		}},
		{"Worst", ofProbes(), func(q question) (api.Errno, bool) {
			n, p, e := probe.Worst(q.q, q.l)
			return e, n == 0 && sameProof(p, api.Proof{})
		}},
		{"CheckWorst", ofProbes(badProof(), tooWide()), func(q question) (api.Errno, bool) {
			return probe.CheckWorst(q.q, q.l, q.width, q.p), true
		}},
	}
}

func twinCalls() []call {
	return []call{
		{"Show", ofProbes(), func(q question) (api.Errno, bool) {
			t, o, e := probe.Show(q.q, q.l)
			return e, sameTwins(t, api.Twins{}) && len(o.Values) == 0
		}},
		{"CheckTwins", ofProbes(noPoint(), shortPoint(), parted()), func(q question) (api.Errno, bool) {
			n, e := probe.CheckTwins(q.q, q.l, q.t)
			return e, n == 0
		}},
		{"Meeting", []fault{shortPoint(), noMeeting(), parted()}, func(q question) (api.Errno, bool) {
			o, e := probe.Meeting(q.l, q.t)
			return e, len(o.Values) == 0
		}},
	}
}

func pickCalls() []call {
	return []call{
		{"Choices", []fault{tooMany()}, func(q question) (api.Errno, bool) {
			l, e := probe.Choices(q.many)
			return e, len(l) == 0
		}},
		{"Best", ofProbes(none()), func(q question) (api.Errno, bool) {
			n, e := probe.Best(q.q, q.l)
			return e, n == 0
		}},
		{"Fewest", ofProbes(open()), func(q question) (api.Errno, bool) {
			k, e := probe.Fewest(q.q, q.l)
			return e, samePick(k, api.Pick{})
		}},
		{"CheckPick", ofProbes(badPick()), func(q question) (api.Errno, bool) { return probe.CheckPick(q.q, q.l, q.k), true }},
	}
}

// exampleQuestion is one of which all functions tell something.
func exampleQuestion() question {
	q := question{q: example(8), l: exampleProbes(), o: api.Outcome{Values: []int{5, 9, 9}}, at: 0, many: 8}
	q.t = api.Twins{A: []int{0, 4, 7}, B: []int{0, 6, 7}}
	q.width, q.p, _ = probe.Worst(q.q, q.l)
	q.k, _ = probe.Fewest(q.q, q.l)
	return q
}

// TestOrderOfErrors is R1 and R2: whichever faults there are together, the
// error is that of the first one, and nothing is beside it.
func TestOrderOfErrors(t *testing.T) {
	for _, c := range calls() {
		if e, _ := c.ask(exampleQuestion()); e != api.OK {
			t.Error(c.name, e)
		}
		start := exampleQuestion()
		for set := 1; set < 1<<len(c.faults); set++ {
			q, want := start, api.OK
			for i, f := range slices.Backward(c.faults) {
				if set&(1<<i) != 0 {
					f.spoil(&q)
					want = f.e
				}
			}
			if e, zero := c.ask(q); e != want || !zero {
				t.Fatal(c.name, set, e, want, zero)
			}
		}
	}
}

// TestInvalidArguments: all functions refuse all that is not valid.
func TestInvalidArguments(t *testing.T) {
	for e, l := range invalidAsks() {
		for _, ask := range l {
			for _, c := range calls() {
				q := exampleQuestion()
				q.q = ask
				if got, zero := c.ask(q); len(c.faults) >= len(ofAsk()) && (got != e || !zero) {
					t.Error(c.name, ask, got, e)
				}
			}
		}
	}
	for _, p := range []api.Probe{
		{}, {Unknown: -1}, {Unknown: 3}, {Unknown: 1, Tolerance: -1}, {Unknown: 1, Tolerance: 1001}, {Unknown: math.MinInt}, {Unknown: 1, Tolerance: math.MaxInt},
	} {
		for _, c := range calls() {
			q := exampleQuestion()
			q.l = append([]api.Probe{p}, q.l...)
			named := slices.ContainsFunc(c.faults, func(f fault) bool { return f.e == api.ErrProbe })
			if e, zero := c.ask(q); named && (e != api.ErrProbe || !zero) {
				t.Error(c.name, p, e)
			}
		}
	}
}

// spoil writes into all the memory of a list, also behind its end.
func spoil[T any](l []T, with T) {
	l = l[:cap(l)]
	for i := range l {
		l[i] = with
	}
}

// roomy is an equal list that has room behind its end.
func roomy[T any](l []T) []T { return slices.Grow(slices.Clone(l), 9) }

// untouched reports whether a list is as it was, and has nothing behind its end.
func untouched[T comparable](l, was []T) bool {
	var zero T
	behind := l[len(l):cap(l)]
	return slices.Equal(l, was) && !slices.ContainsFunc(behind, func(x T) bool { return x != zero })
}

// TestArgumentsAreNotChanged is R4: neither an argument nor what stands behind its end.
func TestArgumentsAreNotChanged(t *testing.T) {
	for _, change := range []func(q *question){
		func(q *question) {}, noOutcome().spoil, open().spoil, full().spoil, badPick().spoil, parted().spoil, ofAsk()[8].spoil,
	} {
		q := exampleQuestion()
		change(&q)
		was := q
		q.q.System.Limits, q.q.Weights, q.l, q.o.Values = roomy(q.q.System.Limits), roomy(q.q.Weights), roomy(q.l), roomy(q.o.Values)
		q.t.A, q.t.B, q.p.Uses = roomy(q.t.A), roomy(q.t.B), roomy(q.p.Uses)
		q.k.Probes, q.k.Proof.Uses, q.k.Fails = roomy(q.k.Probes), roomy(q.k.Proof.Uses), slices.Clone(q.k.Fails)
		for i, twins := range q.k.Fails {
			q.k.Fails[i] = api.Twins{A: roomy(twins.A), B: roomy(twins.B)}
		}
		for _, c := range calls() {
			c.ask(q)
		}
		if !untouched(q.q.System.Limits, was.q.System.Limits) || !untouched(q.q.Weights, was.q.Weights) || !untouched(q.l, was.l) ||
			!untouched(q.o.Values, was.o.Values) || !untouched(q.t.A, was.t.A) || !untouched(q.t.B, was.t.B) || !untouched(q.p.Uses, was.p.Uses) ||
			!untouched(q.k.Probes, was.k.Probes) || !untouched(q.k.Proof.Uses, was.k.Proof.Uses) {
			t.Error(q)
		}
		for i, twins := range q.k.Fails {
			if !untouched(twins.A, was.k.Fails[i].A) || !untouched(twins.B, was.k.Fails[i].B) {
				t.Error(i, twins)
			}
		}
	}
}

// TestResultsAreNew is R4 too: whoever writes into a result changes nothing else.
func TestResultsAreNew(t *testing.T) {
	q := exampleQuestion()
	q.q.Width = 2
	want, e := probe.Fewest(q.q, q.l)
	mustHold(t, e)
	for range 2 {
		a, e1 := probe.After(q.q, q.l, q.o)
		none, e2 := probe.After(q.q, nil, api.Outcome{})
		s, w, e3 := probe.Pairs(q.q, q.l)
		_, p, e4 := probe.Worst(q.q, q.l)
		twins, o, e5 := probe.Show(q.q, q.l)
		pick, e6 := probe.Fewest(q.q, q.l)
		met, e7 := probe.Meeting(q.l, q.t)
		mustHold(t, max(e1, e2, e3, e4, e5, e6, e7))
		if !samePick(pick, want) {
			t.Error(pick, want)
		}
		for _, ask := range []api.Ask{a, none} {
			spoil(ask.System.Limits, api.Limit{A: -1})
			spoil(ask.Weights, -1)
		}
		spoil(s.Limits, api.Limit{A: -1})
		spoil(w, -1)
		spoil(p.Uses, api.Use{Limit: -1})
		lists := [][]int{twins.A, twins.B, o.Values, met.Values, pick.Probes}
		for _, fail := range pick.Fails {
			lists = append(lists, fail.A, fail.B)
		}
		apart(t, lists)
		spoil(pick.Proof.Uses, api.Use{Limit: -1})
		all, e := probe.Choices(5)
		if !sameLists(all, choices(5)) || e != api.OK {
			t.Error(all, e)
		}
		apart(t, all)
	}
	was := exampleQuestion()
	if !slices.Equal(q.q.System.Limits, was.q.System.Limits) || !slices.Equal(q.q.Weights, was.q.Weights) || !slices.Equal(q.l, was.l) ||
		!slices.Equal(q.o.Values, was.o.Values) || !sameTwins(q.t, was.t) {
		t.Error(q)
	}
}

// apart spoils lists one by one: those behind are as they were.
func apart(t *testing.T, lists [][]int) {
	t.Helper()
	was := make([][]int, len(lists))
	for i, l := range lists {
		was[i] = slices.Clone(l)
	}
	for i, l := range lists {
		spoil(l, -1)
		if !sameLists(lists[i+1:], was[i+1:]) {
			t.Error("lists share memory", i, was)
		}
	}
}

// TestEmptyLists is R3: a list without elements is nil, or it is not.
func TestEmptyLists(t *testing.T) {
	for _, l := range [][]api.Probe{nil, {}} {
		for _, none := range [][]int{nil, {}} {
			q := api.Ask{Weights: []int{3}, System: api.System{Limits: []api.Limit{}}}
			o := api.Outcome{Values: none}
			is, e1 := probe.Possible(q, l, o)
			a, e2 := probe.After(q, l, o)
			n, e3 := probe.CheckTwins(q, l, api.Twins{A: []int{0}, B: []int{0}})
			met, e4 := probe.Meeting(l, api.Twins{A: none, B: nil})
			e5 := probe.CheckPick(q, l, api.Pick{Probes: none, Fails: []api.Twins{}, Proof: api.Proof{Uses: []api.Use{}}})
			e6 := probe.CheckPick(q, l, api.Pick{Probes: none})
			if !is || !sameAsk(a, q) || n != 0 || len(met.Values) != 0 || max(e1, e2, e3, e4, e5, e6) != api.OK {
				t.Error(is, a, n, met, e1, e2, e3, e4, e5, e6)
			}
		}
	}
}

// TestSameAgain: the result of a call depends on its arguments alone.
func TestSameAgain(t *testing.T) {
	q, l := large(rand.New(rand.NewSource(97)))
	q.Width = worstOf(t, q, l[5:])
	twins, _, e1 := probe.Show(q, l)
	pick, e2 := probe.Fewest(q, l)
	mustHold(t, max(e1, e2))
	for range 3 {
		again, _, e1 := probe.Show(q, l)
		other, e2 := probe.Fewest(q, l)
		if !sameTwins(twins, again) || !samePick(pick, other) || max(e1, e2) != api.OK {
			t.Error(twins, again, pick, other)
		}
	}
}

// anyInt is a number that may be anything, often one near a limit.
func anyInt(r *rand.Rand) int {
	edges := []int{
		0, 1, 31, 64, api.MaxMost, -api.MaxMost, api.MaxMost + 1000, api.MaxSource, api.MaxSum / 2, -api.MaxSum, api.Free, 1280000, -1280000,
		1000000000000000000, math.MaxInt, math.MinInt + 1,
	}
	switch r.Intn(8) {
	case 0:
		return int(r.Uint64())
	case 1:
		return edges[r.Intn(len(edges))] + r.Intn(3) - 1
	default:
		return r.Intn(7) - 1
	}
}

func anyList(r *rand.Rand) []int {
	l := make([]int, r.Intn(5))
	for i := range l {
		l[i] = anyInt(r)
	}
	return l
}

// anyTwins are of a hull, or anything.
func anyTwins(r *rand.Rand) api.Twins { return api.Twins{A: anyList(r), B: anyList(r)} }

func anyProof(r *rand.Rand) api.Proof {
	p := api.Proof{Bound: anyInt(r)}
	for range r.Intn(4) {
		p.Uses = append(p.Uses, api.Use{Limit: anyInt(r), Times: anyInt(r)})
	}
	return p
}

// anyQuestion is one of which much is right, or nothing.
func anyQuestion(r *rand.Rand) question {
	q := question{at: anyInt(r), width: anyInt(r), many: anyInt(r), p: anyProof(r), t: anyTwins(r), o: api.Outcome{Values: anyList(r)}}
	m := maker{r}
	q.q = m.ask()
	q.l = m.probes(q.q, 4)
	switch r.Intn(4) {
	case 0:
		q.q = api.Ask{System: api.System{Many: anyInt(r)}, Weights: anyList(r), Width: anyInt(r)}
		for range r.Intn(6) {
			q.q.System.Limits = append(q.q.System.Limits, api.Limit{A: anyInt(r), B: anyInt(r), Most: anyInt(r), By: anyInt(r)})
		}
	case 1:
		q.q.Weights = anyList(r)
	case 2:
		q.q.Width = anyInt(r)
	}
	if r.Intn(3) == 0 || len(q.l) == 0 { // Values takes the first one
		q.l = append(q.l, api.Probe{Unknown: anyInt(r), Tolerance: anyInt(r)})
	}
	q.k = api.Pick{Probes: anyList(r), Width: anyInt(r), Proof: anyProof(r)}
	for range r.Intn(4) {
		q.k.Fails = append(q.k.Fails, anyTwins(r))
	}
	return q
}

// TestAnyArguments is P1: no call panics, and with an error there are no
// other results.
func TestAnyArguments(t *testing.T) {
	r := rand.New(rand.NewSource(98))
	for range 10000 {
		q := anyQuestion(r)
		for _, c := range calls() {
			if e, zero := c.ask(q); e != api.OK && !zero {
				t.Fatal(c.name, q, e)
			}
		}
	}
}
