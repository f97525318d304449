package offsets_test

import (
	"math"
	"math/rand"
	"slices"
	"testing"

	"moorsom/api"
	"moorsom/offsets"
)

// An outcome is what a call returned: its error, and whether all other
// results are zero values, or empty lists.
type outcome struct {
	name string
	e    api.Errno
	zero bool
}

func noProof(p api.Proof) bool { return p.Bound == 0 && len(p.Uses) == 0 }

// surveyed calls all functions that take a survey.
func surveyed(v api.Survey, h api.Hull, w api.What, d api.TapeDay, r api.Reading, n int) []outcome {
	days, e1 := offsets.Tapes(v)
	system, e2 := offsets.System(v)
	tape, e3 := offsets.Tape(v, d)
	clash, e4 := offsets.Clash(v)
	sources, e5 := offsets.Sources(v)
	left, e6 := offsets.Without(v, n)
	told, e7 := offsets.Told(v, r)
	more, e8 := offsets.With(v, r)
	return append([]outcome{
		{"Check", offsets.Check(v), true},
		{"Tapes", e1, len(days) == 0},
		{"System", e2, system.Many == 0 && len(system.Limits) == 0},
		{"Tape", e3, tape == api.Range{}},
		{"Clash", e4, len(clash) == 0},
		{"Sources", e5, len(sources) == 0},
		{"Without", e6, sameSurvey(left, api.Survey{})},
		{"Told", e7, told == api.Range{}},
		{"With", e8, sameSurvey(more, api.Survey{})},
		{"CheckHull", offsets.CheckHull(v, h), true},
	}, asked(v, w, n, api.Proof{})...)
}

// asked calls all functions that take a survey and a quantity.
func asked(v api.Survey, w api.What, n int, p api.Proof) []outcome {
	bound, e1 := offsets.Bound(v, w)
	rests, e2 := offsets.Rests(v, w)
	l := []outcome{{"Bound", e1, bound == api.Range{}}, {"Rests", e2, len(rests) == 0}}
	for _, high := range []bool{true, false} {
		proof, e1 := offsets.Prove(v, w, high)
		hull, e2 := offsets.Attain(v, w, high)
		l = append(l, outcome{"Prove", e1, noProof(proof)}, outcome{"Attain", e2, len(hull.Rows) == 0},
			outcome{"CheckProof", offsets.CheckProof(v, w, high, n, p), true})
	}
	return l
}

// invalidSurveys have the errors of Check.
func invalidSurveys() map[api.Errno][]api.Survey {
	valid, invalid := readings()
	m := map[api.Errno][]api.Survey{}
	_, bad := spaces()
	for _, s := range bad {
		m[api.ErrSpace] = append(m[api.ErrSpace], api.Survey{Space: s, Readings: valid, Compares: comparisons(3)})
	}
	for _, r := range invalid {
		m[api.ErrReading] = append(m[api.ErrReading], plus(falseExample(), r))
	}
	v := example()
	v.Compares = append(v.Compares, api.Compare{Source: 1, Tape: 1, From: 1})
	m[api.ErrCompare] = []api.Survey{v}
	m[api.ErrLong] = []api.Survey{
		{Space: exampleSpace(), Readings: make([]api.Reading, 61)}, {Space: exampleSpace(), Compares: make([]api.Compare, 21)},
		{Space: plainSpace(9, 7, api.Fair{}), Readings: repeated(2, 2)}, {Space: plainSpace(9, 7, api.Fair{}), Readings: repeated(27, 1)},
	}
	return m
}

// TestInvalidSurveys is R1 and R2: the error of Check comes first, whatever
// else is wrong, and nothing is beside it.
func TestInvalidSurveys(t *testing.T) {
	for want, surveys := range invalidSurveys() {
		for _, v := range surveys {
			l := slices.Concat(
				surveyed(v, api.Hull{}, api.What{}, api.TapeDay{}, api.Reading{}, 0),
				surveyed(v, exampleHull(), at(0, 0), api.TapeDay{Tape: 1, Day: 5}, api.Reading{Source: 30, Tape: 1, Day: 5}, 11),
			)
			for _, o := range l {
				if o.e != want || !o.zero {
					t.Error(v, o, want)
				}
			}
		}
	}
	_, bad := spaces()
	for _, s := range bad {
		n, e1 := offsets.Unknown(s, 0, 0)
		l, d, e2 := offsets.Weights(s, at(0, 0))
		m, f, e3 := offsets.Weights(s, api.What{})
		if n != 0 || len(l) != 0 || d != 0 || len(m) != 0 || f != 0 || e1 != api.ErrSpace || e2 != api.ErrSpace || e3 != api.ErrSpace {
			t.Error(s, n, l, d, m, f, e1, e2, e3)
		}
	}
}

// TestWrongWhatsOfSurveys: a quantity that is none comes ahead of a survey
// that is false, and of a proof that is none.
func TestWrongWhatsOfSurveys(t *testing.T) {
	for _, v := range []api.Survey{example(), falseExample()} {
		for _, w := range wrongWhats(v.Space) {
			for _, o := range asked(v, w, 0, api.Proof{Bound: 1}) {
				if o.e != api.ErrWhat || !o.zero {
					t.Error(w, o)
				}
			}
		}
	}
}

// TestFalseSurveys: what asks for a true survey refuses a false one; all else answers.
func TestFalseSurveys(t *testing.T) {
	v := falseExample()
	want := map[string]api.Errno{"Bound": api.ErrFalse, "Rests": api.ErrFalse, "Prove": api.ErrFalse, "Attain": api.ErrFalse, "Tape": api.ErrFalse, "Told": api.ErrFalse, "CheckHull": api.ErrHull, "CheckProof": api.ErrProof}
	for _, w := range whats(v.Space) {
		for _, o := range surveyed(v, exampleHull(), w, api.TapeDay{Tape: 1, Day: 5}, api.Reading{Source: 30, Tape: 1, Day: 5}, 11) {
			if o.e != want[o.name] || o.e != api.OK && !o.zero {
				t.Error(w, o)
			}
		}
	}
	// The space's limits alone, with one reading, leave out what two more exclude; a proof stands where no hull does.
	w := at(0, 0)
	p, e := offsets.Prove(example(), w, true)
	mustHold(t, e)
	mustHold(t, offsets.CheckProof(v, w, true, 105, p))
	if e := offsets.CheckProof(v, w, true, 104, p); e != api.ErrShown {
		t.Error(e)
	}
}

// TestProofsThatAreNone have what chapter 2 refuses.
func TestProofsThatAreNone(t *testing.T) {
	v, w := example(), at(0, 0)
	use := func(l ...int) (uses []api.Use) {
		for i := 0; i < len(l); i += 2 {
			uses = append(uses, api.Use{Limit: l[i], Times: l[i+1]})
		}
		return uses
	}
	// Limit 20 says that the error of the tape 1 is at least 5, limit 22 what is told of the offset by it.
	for _, c := range []struct {
		bound int
		uses  []api.Use
		e     api.Errno
	}{
		{105, use(20, 1, 22, 1), api.OK},
		{20000, use(0, 1), api.OK},
		{104, use(20, 1, 22, 1), api.ErrProof},
		{106, use(20, 1, 22, 1), api.ErrProof},
		{105, use(22, 1, 20, 1), api.ErrProof},
		{105, use(20, 1, 22, 1, 22, 0), api.ErrProof},
		{110, use(22, 1), api.ErrProof},
		{215, use(20, 1, 22, 2), api.ErrProof},
		{105, use(20, 1, 22, 1, 30, 1), api.ErrProof},
		{105, use(-1, 1, 20, 1, 22, 1), api.ErrProof},
		{0, nil, api.ErrProof},
		{0, use(math.MinInt, math.MaxInt), api.ErrProof},
		{0, use(0, math.MaxInt), api.ErrProof},
	} {
		if e := offsets.CheckProof(v, w, true, math.MaxInt, api.Proof{Bound: c.bound, Uses: c.uses}); e != c.e {
			t.Error(c, e)
		}
		if e := offsets.CheckProof(v, w, true, math.MinInt, api.Proof{Bound: c.bound, Uses: c.uses}); e != api.ErrProof && e != api.ErrShown {
			t.Error(c, e)
		}
	}
	// At least 75: the other way round.
	p := api.Proof{Bound: -75, Uses: use(21, 1, 23, 1)}
	for n, want := range map[int]api.Errno{74: api.OK, 75: api.OK, 76: api.ErrShown, math.MinInt: api.OK, math.MaxInt: api.ErrShown} {
		if e := offsets.CheckProof(v, w, false, n, p); e != want {
			t.Error(n, e)
		}
	}
}

// spoil writes into all the memory of a list, also behind its end.
func spoil[T any](l []T, with T) {
	l = l[:cap(l)]
	for i := range l {
		l[i] = with
	}
}

func spoilSurvey(v api.Survey) {
	spoil(v.Space.Stations, -7)
	spoil(v.Space.Waters, -8)
	spoil(v.Readings, api.Reading{Source: -9})
	spoil(v.Compares, api.Compare{Source: -10})
}

// roomy is an equal survey whose lists have room behind their ends.
func roomy(v api.Survey) api.Survey {
	v.Space.Stations, v.Space.Waters = slices.Grow(slices.Clone(v.Space.Stations), 9), slices.Grow(slices.Clone(v.Space.Waters), 9)
	v.Readings, v.Compares = slices.Grow(slices.Clone(v.Readings), 9), slices.Grow(slices.Clone(v.Compares), 9)
	return v
}

// TestArgumentsAreNotChanged is R4: neither an argument nor what stands behind its end.
func TestArgumentsAreNotChanged(t *testing.T) {
	for _, kept := range []api.Survey{example(), falseExample()} {
		v, h := roomy(kept), exampleHull()
		p := api.Proof{Bound: 105, Uses: []api.Use{{Limit: 20, Times: 1}, {Limit: 22, Times: 1}}}
		for _, w := range whats(v.Space) {
			for _, n := range []int{11, 13, 21} {
				surveyed(v, h, w, api.TapeDay{Tape: 1, Day: 5}, api.Reading{Source: 30, Tape: 7, Day: 6}, n)
			}
			asked(v, w, 5, p)
			offsets.Weights(v.Space, w)
			offsets.Value(v.Space, h, w)
		}
		behind := v.Readings[:cap(v.Readings)][len(v.Readings):]
		if !sameSurvey(v, kept) || slices.ContainsFunc(behind, func(r api.Reading) bool { return r != api.Reading{} }) {
			t.Error(v)
		}
		if !sameHull(h, exampleHull()) || p.Bound != 105 || !slices.Equal(p.Uses, []api.Use{{Limit: 20, Times: 1}, {Limit: 22, Times: 1}}) {
			t.Error(h, p)
		}
	}
}

// TestResultsAreNew is R4 too: whoever writes into a result changes nothing else.
func TestResultsAreNew(t *testing.T) {
	v := roomy(example())
	v.Space.Waters = v.Space.Stations // one list for both
	x := api.Reading{Source: 30, Value: 100, Tape: 7, Day: 6}
	one, e1 := offsets.With(v, x)
	two, e2 := offsets.With(v, x)
	left, e3 := offsets.Without(v, 14)
	mustHold(t, max(e1, e2, e3))
	spoil(one.Space.Stations, -7)
	if !slices.Equal(one.Space.Waters, []int{0, 1000}) {
		t.Error("two lists of With are one")
	}
	spoil(left.Space.Stations, -7)
	if !slices.Equal(left.Space.Waters, []int{0, 1000}) {
		t.Error("two lists of Without are one")
	}
	spoilSurvey(one)
	spoilSurvey(left)
	if !sameSurvey(v, example()) || !sameSurvey(two, plus(example(), x)) {
		t.Error(v, two)
	}

	h, e := offsets.Attain(v, at(0, 0), true)
	mustHold(t, e)
	second := slices.Clone(h.Rows[1])
	spoil(h.Rows[0], -1)
	if !slices.Equal(h.Rows[1], second) {
		t.Error("rows of Attain", h)
	}
	spoil(h.Rows[1], -1)
	days, _ := offsets.Tapes(v)
	spoil(days, api.TapeDay{})
	system, _ := offsets.System(v)
	spoil(system.Limits, api.Limit{})
	sources, _ := offsets.Sources(v)
	spoil(sources, -1)
	weights, _, _ := offsets.Weights(v.Space, at(0, 0))
	spoil(weights, -1)
	if r, e := offsets.Bound(v, at(0, 0)); r != (api.Range{Lo: 75, Hi: 105}) || e != api.OK || !sameSurvey(v, example()) {
		t.Error(r, e, v)
	}
}

// TestEmptyLists is R3: a list without elements is nil, or it is not.
func TestEmptyLists(t *testing.T) {
	for _, v := range []api.Survey{{Space: exampleSpace()}, {Space: exampleSpace(), Readings: []api.Reading{}, Compares: []api.Compare{}}} {
		mustHold(t, offsets.Check(v))
		if got, e := offsets.With(v, repeated(1, 1)[0]); e != api.OK || !sameSurvey(got, api.Survey{Space: exampleSpace(), Readings: repeated(1, 1)}) {
			t.Error(got, e)
		}
	}
	alone := api.Survey{Space: exampleSpace(), Readings: repeated(1, 1)}
	if got, e := offsets.Without(alone, 100); e != api.OK || !sameSurvey(got, api.Survey{Space: exampleSpace()}) {
		t.Error(got, e)
	}
}

// TestSameAgain: the result of a call depends on its arguments alone.
func TestSameAgain(t *testing.T) {
	trueSurveys(t, 21, func(r *rand.Rand, f found) {
		all := whats(f.survey.Space)
		w := all[r.Intn(len(all))]
		h, _ := offsets.Attain(f.survey, w, true)
		p, _ := offsets.Prove(f.survey, w, false)
		g, _ := offsets.Attain(copyOf(f.survey), w, true)
		q, _ := offsets.Prove(copyOf(f.survey), w, false)
		if !sameHull(h, g) || p.Bound != q.Bound || !slices.Equal(p.Uses, q.Uses) {
			t.Fatal(f.survey, w)
		}
	})
}

// anyInt is a number that may be anything, often one near a limit.
func anyInt(r *rand.Rand) int {
	edges := []int{0, 1, 64, api.MaxSource, api.MaxFair, api.MaxAlong, api.MaxUp, api.MaxBreadth, api.MaxTolerance, -api.MaxError, api.MaxTape, math.MaxInt, math.MinInt}
	switch r.Intn(12) {
	case 0:
		return int(r.Uint64())
	case 1:
		return edges[r.Intn(len(edges))] + r.Intn(3) - 1
	default:
		return r.Intn(5)
	}
}

func anyList(r *rand.Rand) []int {
	l := make([]int, r.Intn(5))
	for i := range l {
		l[i] = 4*i + anyInt(r)
	}
	return l
}

func anyReading(r *rand.Rand) api.Reading {
	return api.Reading{Source: anyInt(r), Station: anyInt(r), Water: anyInt(r), Value: anyInt(r), Tolerance: anyInt(r), Tape: anyInt(r), Day: anyInt(r)}
}

func anySurvey(r *rand.Rand) api.Survey {
	v := randomFound(r).survey
	if r.Intn(3) == 0 {
		v.Space = api.Space{Id: anyInt(r), Source: anyInt(r), Stations: anyList(r), Waters: anyList(r), Fair: api.Fair{Along: anyInt(r), Up: anyInt(r)}}
	}
	if r.Intn(3) == 0 {
		v = plus(v, anyReading(r))
	}
	if r.Intn(3) == 0 {
		v.Compares = append(v.Compares, api.Compare{Source: anyInt(r), Tape: anyInt(r), From: anyInt(r), To: anyInt(r), Lo: anyInt(r), Hi: anyInt(r)})
	}
	return v
}

// TestAnyArguments is P1: no call panics, and with an error there are no other results.
func TestAnyArguments(t *testing.T) {
	r := rand.New(rand.NewSource(22))
	valid := 0
	for range 3000 {
		v := anySurvey(r)
		h := api.Hull{}
		for range r.Intn(5) {
			h.Rows = append(h.Rows, anyList(r))
		}
		w := api.What{Kind: anyInt(r), Station: anyInt(r), Water: anyInt(r)}
		p := api.Proof{Bound: anyInt(r)}
		for range r.Intn(4) {
			p.Uses = append(p.Uses, api.Use{Limit: anyInt(r), Times: anyInt(r)})
		}
		d := api.TapeDay{Tape: anyInt(r), Day: anyInt(r)}
		l := append(surveyed(v, h, w, d, anyReading(r), anyInt(r)), asked(v, w, anyInt(r), p)...)
		n, e1 := offsets.Unknown(v.Space, anyInt(r), anyInt(r))
		weights, divisor, e2 := offsets.Weights(v.Space, w)
		value, e3 := offsets.Value(v.Space, h, w)
		l = append(l, outcome{"Unknown", e1, n == 0}, outcome{"Weights", e2, len(weights) == 0 && divisor == 0}, outcome{"Value", e3, value == 0})
		for _, o := range l {
			if o.e != api.OK && !o.zero {
				t.Fatal(v, h, w, p, d, o)
			}
		}
		if l[0].e == api.OK {
			valid++
		}
	}
	if valid < 500 {
		t.Error("too few surveys are valid:", valid)
	}
}
