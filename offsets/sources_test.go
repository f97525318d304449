package offsets_test

import (
	"math"
	"math/rand"
	"slices"
	"testing"

	"moorsom/api"
	"moorsom/offsets"
)

func TestClashExamples(t *testing.T) {
	if l, e := offsets.Clash(falseExample()); !slices.Equal(l, []int{11, 15}) || e != api.OK {
		t.Error(l, e)
	}
	for _, v := range []api.Survey{example(), {Space: exampleSpace()}, {Space: exampleSpace(), Compares: comparisons(3)}} {
		if l, e := offsets.Clash(v); len(l) != 0 || e != api.ErrNone {
			t.Error(l, e)
		}
	}
	// Two comparisons contradict each other where a reading names the tape, and only there.
	v := api.Survey{Space: exampleSpace(), Compares: []api.Compare{
		{Source: 40, Tape: 3, To: 9, Lo: 5, Hi: 8}, {Source: 30, Tape: 3, From: 5, To: 20, Lo: 9, Hi: 11}, {Source: 20, Tape: 3, From: 5, To: 20, Lo: 9, Hi: 11},
	}}
	for day, want := range map[int][]int{0: nil, 4: nil, 5: {20, 40}, 9: {20, 40}, 10: nil, 21: nil} {
		l, e := offsets.Clash(plus(v, api.Reading{Source: 50, Value: 500, Tape: 3, Day: day}))
		if !slices.Equal(l, want) || (e == api.OK) != (want != nil) {
			t.Error(day, l, e)
		}
	}
	// One tape on two days may err by two numbers; on one day it may not. The space's source is one too.
	twice := []api.Reading{{Source: 11, Value: 500, Tape: 3, Day: 1}, {Source: 12, Station: 1, Value: 700, Tape: 3, Day: 1}}
	v = api.Survey{Space: exampleSpace(), Readings: twice}
	if l, e := offsets.Clash(v); !slices.Equal(l, []int{1, 11, 12}) || e != api.OK {
		t.Error(l, e)
	}
	twice[1].Day = 2
	if l, e := offsets.Clash(v); len(l) != 0 || e != api.ErrNone {
		t.Error(l, e)
	}
	// A source that contradicts itself.
	twice[1] = api.Reading{Source: 11, Value: 501, Tape: 3, Day: 1}
	if l, e := offsets.Clash(v); !slices.Equal(l, []int{11}) || e != api.OK {
		t.Error(l, e)
	}
}

// of is a system with the limits of some sources alone.
func of(s api.System, by []int) api.System {
	s.Limits = slices.DeleteFunc(slices.Clone(s.Limits), func(l api.Limit) bool { return !slices.Contains(by, l.By) })
	return s
}

func canAllBeRight(s api.System, by []int) bool {
	_, ok := apart(of(s, by))
	return ok
}

// TestClashes is P3.4: a survey is false exactly if Clash names sources; they
// cannot all be right; without any one of them the others can.
func TestClashes(t *testing.T) {
	isFalse, isNot := 0, 0
	anySurveys(t, 10, func(_ *rand.Rand, v api.Survey) {
		l, e := offsets.Clash(v)
		s := systemOf(v)
		if isTrue(v) {
			isNot++
			if len(l) != 0 || e != api.ErrNone {
				t.Fatal(v, l, e)
			}
			return
		}
		isFalse++
		want := rising(append(reported(v), v.Space.Source))
		for i := len(want) - 1; i >= 0; i-- {
			if less := slices.Delete(slices.Clone(want), i, i+1); !canAllBeRight(s, less) {
				want = less
			}
		}
		if !slices.Equal(l, want) || e != api.OK {
			t.Fatal(v, l, e, want)
		}
		if canAllBeRight(s, l) {
			t.Fatal(v, l)
		}
		for i := range l {
			if !canAllBeRight(s, slices.Delete(slices.Clone(l), i, i+1)) {
				t.Fatal(v, l, i)
			}
		}
	})
	if isFalse < 50 || isNot < 50 {
		t.Error("too few surveys are false, or not:", isFalse, isNot)
	}
}

func TestSources(t *testing.T) {
	v := example()
	if l, e := offsets.Sources(v); !slices.Equal(l, []int{1, 11, 12, 13, 14, 21}) || e != api.OK {
		t.Error(l, e)
	}
	if l, e := offsets.Sources(api.Survey{Space: exampleSpace()}); !slices.Equal(l, []int{1}) || e != api.OK {
		t.Error(l, e)
	}
	// Each once, in order, also of comparisons of tapes that no reading names; and where the survey is false.
	v = falseExample()
	v.Space.Source = 13
	v.Readings[0].Source = api.MaxSource
	v.Compares = append(v.Compares, api.Compare{Source: 3, Tape: 77}, api.Compare{Source: 12, Tape: 1}, api.Compare{Source: 21, Tape: 2})
	if l, e := offsets.Sources(v); !slices.Equal(l, []int{3, 12, 13, 14, 15, 21, api.MaxSource}) || e != api.OK {
		t.Error(l, e)
	}
	anySurveys(t, 11, func(_ *rand.Rand, v api.Survey) {
		if l, e := offsets.Sources(v); !slices.Equal(l, rising(append(reported(v), v.Space.Source))) || e != api.OK {
			t.Fatal(v, l, e)
		}
	})
}

func TestWithout(t *testing.T) {
	v := falseExample()
	v.Readings[1].Source = 1 // that of the space
	v.Readings[3].Source, v.Compares[0].Source = 13, 13
	v.Compares = append(v.Compares, api.Compare{Source: 31, Tape: 50}, api.Compare{Source: 11, Tape: 2, To: 5, Lo: -9, Hi: 9})
	for _, c := range []struct {
		source             int
		readings, compares []int // indices
		e                  api.Errno
	}{
		{1, []int{0, 2, 3, 4}, []int{0, 1, 2}, api.OK},
		{11, []int{1, 2, 3, 4}, []int{0, 1}, api.OK},
		{13, []int{0, 1, 4}, []int{1, 2}, api.OK},
		{15, []int{0, 1, 2, 3}, []int{0, 1, 2}, api.OK},
		{31, []int{0, 1, 2, 3, 4}, []int{0, 2}, api.OK},
		{2, nil, nil, api.ErrNone}, {0, nil, nil, api.ErrNone}, {-1, nil, nil, api.ErrNone}, {math.MaxInt, nil, nil, api.ErrNone}, {math.MinInt, nil, nil, api.ErrNone},
	} {
		var want api.Survey
		if c.e == api.OK {
			want.Space = v.Space
		}
		for _, i := range c.readings {
			want.Readings = append(want.Readings, v.Readings[i])
		}
		for _, i := range c.compares {
			want.Compares = append(want.Compares, v.Compares[i])
		}
		if got, e := offsets.Without(v, c.source); !sameSurvey(got, want) || e != c.e {
			t.Error(c, got, e)
		}
	}
	// The source of the space alone reported nothing that could be left out.
	if got, e := offsets.Without(example(), 1); !sameSurvey(got, api.Survey{}) || e != api.ErrNone {
		t.Error(got, e)
	}
	anySurveys(t, 12, func(_ *rand.Rand, v api.Survey) {
		for source := range 14 {
			want, e := less(v, source), api.OK
			if !slices.Contains(reported(v), source) {
				want, e = api.Survey{}, api.ErrNone
			}
			if got, f := offsets.Without(v, source); !sameSurvey(got, want) || f != e {
				t.Fatal(v, source, got, f)
			}
		}
	})
}

func TestRestsExamples(t *testing.T) {
	v := example()
	for _, c := range []struct {
		w    api.What
		want []int
	}{
		{at(0, 0), []int{11, 21}},
		{at(0, 1), []int{12, 21}},
		{at(1, 0), []int{12, 13, 14, 21}}, // by the offset above it, and the one behind that
	} {
		if l, e := offsets.Rests(v, c.w); !slices.Equal(l, c.want) || e != api.OK {
			t.Error(c, l, e)
		}
	}
	// Of two that say the same neither one is needed; of one source that says it twice, this one.
	v.Readings = append(v.Readings, v.Readings[0])
	if l, e := offsets.Rests(v, at(0, 0)); !slices.Equal(l, []int{11, 21}) || e != api.OK {
		t.Error(l, e)
	}
	v.Readings[4].Source = 16
	if l, e := offsets.Rests(v, at(0, 0)); !slices.Equal(l, []int{21}) || e != api.OK {
		t.Error(l, e)
	}
	// The space's own limits are not left out with the readings of its source.
	v = example()
	v.Readings[0].Source, v.Compares[0].Source = 1, 1
	if l, e := offsets.Rests(v, at(0, 0)); !slices.Equal(l, []int{1}) || e != api.OK {
		t.Error(l, e)
	}
	if l, e := offsets.Rests(v, at(0, 1)); !slices.Equal(l, []int{1, 12}) || e != api.OK {
		t.Error(l, e)
	}
	for _, v := range []api.Survey{{Space: exampleSpace()}, {Space: exampleSpace(), Compares: comparisons(20)}} {
		if l, e := offsets.Rests(v, at(0, 0)); len(l) != 0 || e != api.OK {
			t.Error(l, e)
		}
	}
}

// TestRestsOfRoundedRanges: the sums are others without a source, the ranges need not be.
func TestRestsOfRoundedRanges(t *testing.T) {
	v := api.Survey{Space: exampleSpace(), Compares: []api.Compare{{Source: 20, Tape: 1, To: 9}}}
	v.Readings = []api.Reading{{Source: 11, Value: 500, Tolerance: 4, Tape: 1, Day: 5}, {Source: 12, Water: 1, Value: 500, Tolerance: 4, Tape: 1, Day: 5}}
	// The section is 99.2 to 100.8, without the finer reading 98.95 to 101.05: rounded down 99 to 100, and 98 to 101.
	v.Readings = append(v.Readings, api.Reading{Source: 13, Value: 500, Tolerance: 3, Tape: 1, Day: 5})
	if r, e := offsets.Bound(v, api.What{Kind: api.WhatSection}); r != (api.Range{Lo: 99, Hi: 100}) || e != api.OK {
		t.Error(r, e)
	}
	if l, e := offsets.Rests(v, api.What{Kind: api.WhatSection}); !slices.Equal(l, []int{12, 20}) || e != api.OK {
		t.Error(l, e)
	}
	if l, e := offsets.Rests(v, at(0, 0)); !slices.Equal(l, []int{13, 20}) || e != api.OK {
		t.Error(l, e)
	}
}

// TestRests holds Rests against the ranges without each source (P3.5).
func TestRests(t *testing.T) {
	rests, others := 0, 0
	trueSurveys(t, 13, func(r *rand.Rand, f found) {
		all := whats(f.survey.Space)
		w := all[r.Intn(len(all))]
		range0, e := offsets.Bound(f.survey, w)
		mustHold(t, e, f.survey, w)
		var want []int
		for _, source := range reported(f.survey) {
			range1, e := offsets.Bound(less(f.survey, source), w)
			mustHold(t, e, f.survey, w)
			if range1 != range0 {
				want = append(want, source)
			} else {
				others++
			}
		}
		rests += len(want)
		if l, e := offsets.Rests(f.survey, w); !slices.Equal(l, want) || e != api.OK {
			t.Fatal(f.survey, w, l, e, want)
		}
	})
	if rests < 100 || others < 100 {
		t.Error("too few sources matter, or do not:", rests, others)
	}
}
