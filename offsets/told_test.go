package offsets_test

import (
	"math/rand"
	"testing"

	"moorsom/api"
	"moorsom/offsets"
)

func TestToldExamples(t *testing.T) {
	v := example()
	for _, c := range []struct {
		name string
		r    api.Reading
		want api.Range
		e    api.Errno
	}{
		{"without a source", api.Reading{Station: 1, Tolerance: 5, Tape: 1, Day: 5}, api.Range{}, api.ErrReading},
		{"with one", api.Reading{Source: 30, Station: 1, Tolerance: 5, Tape: 1, Day: 5}, api.Range{Lo: 0, Hi: 185}, api.OK},
		{"no value counts", api.Reading{Source: 30, Station: 1, Value: -7, Tolerance: 5, Tape: 1, Day: 5}, api.Range{Lo: 0, Hi: 185}, api.OK},
		{"none at all", api.Reading{Source: 30, Station: 1, Value: 1 << 62, Tolerance: 5, Tape: 1, Day: 5}, api.Range{Lo: 0, Hi: 185}, api.OK},
		{"read again", api.Reading{Source: 30, Tolerance: 0, Tape: 1, Day: 5}, api.Range{Lo: 90, Hi: 110}, api.OK},
		{"read again less well", api.Reading{Source: 30, Tolerance: 85, Tape: 1, Day: 5}, api.Range{Lo: 5, Hi: 195}, api.OK},
		{"down to 0", api.Reading{Source: 30, Tolerance: 95, Tape: 1, Day: 5}, api.Range{Lo: 0, Hi: 205}, api.OK},
		{"on a day of the comparison", api.Reading{Source: 30, Tolerance: 2, Tape: 1, Day: 9}, api.Range{Lo: 78, Hi: 122}, api.OK},
		{"on its first day", api.Reading{Source: 30, Tolerance: 2, Tape: 1, Day: 0}, api.Range{Lo: 78, Hi: 122}, api.OK},
		{"on a day behind it", api.Reading{Source: 30, Tolerance: 2, Tape: 1, Day: 10}, api.Range{Lo: 0, Hi: 1107}, api.OK},
		{"by another tape", api.Reading{Source: 30, Tolerance: 2, Tape: 3, Day: 5}, api.Range{Lo: 0, Hi: 1107}, api.OK},
		{"by the tape 2", api.Reading{Source: 30, Water: 1, Tolerance: 0, Tape: 2, Day: 5}, api.Range{Lo: 190, Hi: 365}, api.OK},
	} {
		if r, e := offsets.Told(v, c.r); r != c.want || e != c.e {
			t.Error(c.name, r, e)
		}
	}
	// Without any reading the tape may tell all that a reading may have, but the tape's error bounds even this.
	free := api.Survey{Space: exampleSpace()}
	for tolerance, want := range map[int]api.Range{0: {Hi: 20000}, 7: {Hi: 19993}, api.MaxTolerance: {Hi: 19000}} {
		if r, e := offsets.Told(free, api.Reading{Source: 30, Tolerance: tolerance, Tape: 3, Day: 5}); r != want || e != api.OK {
			t.Error(tolerance, r, e)
		}
	}
}

// atMost is a survey by which no offset is above a number, and a tape that errs as it is said.
func atMost(n, tape, lo, hi int) api.Survey {
	return api.Survey{
		Space:    exampleSpace(),
		Readings: []api.Reading{{Source: 11, Value: n / 2, Tolerance: n - n/2, Tape: 1, Day: 1}},
		Compares: []api.Compare{{Source: 12, Tape: 1, To: 9}, {Source: 13, Tape: tape, From: 2, To: 9, Lo: lo, Hi: hi}},
	}
}

// TestNothingCanBeTold has tapes that tell less than 0, or more than a reading may have.
func TestNothingCanBeTold(t *testing.T) {
	for _, c := range []struct {
		hi, tolerance int
		want          api.Range
		e             api.Errno
	}{
		{-58, 7, api.Range{}, api.ErrNone}, {-57, 7, api.Range{Lo: 0, Hi: 0}, api.OK}, {-50, 7, api.Range{Lo: 0, Hi: 7}, api.OK},
		{-51, 0, api.Range{}, api.ErrNone}, {-50, 0, api.Range{Lo: 0, Hi: 0}, api.OK},
	} {
		r, e := offsets.Told(atMost(50, 2, -900, c.hi), api.Reading{Source: 30, Tolerance: c.tolerance, Tape: 2, Day: 5})
		if r != c.want || e != c.e {
			t.Error(c, r, e)
		}
	}
	high := api.Survey{Space: exampleSpace(), Readings: []api.Reading{{Source: 11, Value: 20000, Tape: 1, Day: 1}}, Compares: []api.Compare{{Source: 12, Tape: 1, To: 1}}}
	for _, c := range []struct {
		lo, tolerance int
		want          api.Range
		e             api.Errno
	}{
		{1, 0, api.Range{}, api.ErrNone}, {0, 0, api.Range{Lo: 20000, Hi: 20000}, api.OK}, {1, 7, api.Range{}, api.ErrNone},
		{0, 7, api.Range{Lo: 19993, Hi: 19993}, api.OK}, {-5, 7, api.Range{Lo: 19988, Hi: 19993}, api.OK}, {1, 1000, api.Range{}, api.ErrNone},
	} {
		v := high
		v.Compares = append(v.Compares, api.Compare{Source: 13, Tape: 2, To: 9, Lo: c.lo, Hi: 1000})
		if r, e := offsets.Told(v, api.Reading{Source: 30, Tolerance: c.tolerance, Tape: 2, Day: 5}); r != c.want || e != c.e {
			t.Error(c, r, e)
		}
	}
}

// TestToldOfGreatSurveys: the tape day of a reading counts among the unknowns, and its limits among the limits; the reading does not.
func TestToldOfGreatSurveys(t *testing.T) {
	known, other := api.Reading{Source: 30, Tape: 1, Day: 0}, api.Reading{Source: 30, Tape: 2, Day: 0}
	great, middle, small := plainSpace(9, 7, api.Fair{}), plainSpace(9, 5, api.Fair{}), plainSpace(2, 2, api.Fair{})
	for _, c := range []struct {
		name string
		v    api.Survey
		r    api.Reading
		e    api.Errno
	}{
		{"the last unknown", api.Survey{Space: great}, other, api.OK},
		{"no unknown more", api.Survey{Space: great, Readings: repeated(5, 1)}, known, api.OK},
		{"too many unknowns", api.Survey{Space: great, Readings: repeated(1, 1)}, other, api.ErrLong},
		{"no limit more", api.Survey{Space: great, Readings: repeated(26, 1)}, known, api.OK},
		{"the last limits", api.Survey{Space: middle, Readings: repeated(60, 1), Compares: comparisons(17)}, other, api.OK},
		{"too many limits", api.Survey{Space: middle, Readings: repeated(60, 1), Compares: comparisons(18)}, other, api.ErrLong},
		{"too many limits of comparisons", api.Survey{Space: middle, Readings: repeated(60, 1), Compares: append(comparisons(16), api.Compare{Source: 5, Tape: 2, To: 0}, api.Compare{Source: 5, Tape: 2, To: 1})}, other, api.ErrLong},
		{"as many limits of comparisons as may be", api.Survey{Space: middle, Readings: repeated(60, 1), Compares: append(comparisons(16), api.Compare{Source: 5, Tape: 2, To: 0}, api.Compare{Source: 5, Tape: 2, From: 1, To: 1})}, other, api.OK},
		{"all readings", api.Survey{Space: small, Readings: repeated(60, 1)}, other, api.OK},
		{"all unknowns", api.Survey{Space: small, Readings: repeated(60, 60)}, other, api.ErrLong},
	} {
		if e := offsets.Check(c.v); e != api.OK {
			t.Fatal(c.name, e)
		}
		if r, e := offsets.Told(c.v, c.r); e != c.e || e != api.OK && r != (api.Range{}) {
			t.Error(c.name, r, e)
		}
	}
}

// TestTold holds Told against the greatest differences of the unknowns, and
// against which values make a survey false.
func TestTold(t *testing.T) {
	none, some := 0, 0
	trueSurveys(t, 14, func(r *rand.Rand, f found) {
		if n := pick(r, 0, 0, -900, 900); n != 0 { // a tape that no reading names
			f.survey.Compares = append(f.survey.Compares, api.Compare{Source: 3, Tape: 3, To: 9, Lo: n, Hi: n})
		}
		for range 5 {
			x := randomReading(r, f.survey.Space, 3, 4)
			x.Value = r.Intn(30000)
			want, ok := toldOf(f.survey, x)
			got, e := offsets.Told(f.survey, x)
			if !ok {
				if none++; got != want || e == api.OK {
					t.Fatal(f.survey, x, got, e)
				}
				continue
			}
			if some++; got != want || e != api.OK {
				t.Fatal(f.survey, x, got, e, want)
			}
			for _, n := range []int{want.Lo - 1, want.Lo, (want.Lo + want.Hi) / 2, want.Hi, want.Hi + 1} {
				x.Value = n
				more, e := offsets.With(f.survey, x)
				if n < 0 || n > api.MaxBreadth-x.Tolerance {
					if e != api.ErrReading {
						t.Fatal(f.survey, x, e)
					}
					continue
				}
				if isTrue(more) != (want.Lo <= n && n <= want.Hi) {
					t.Fatal(f.survey, x, want, n)
				}
			}
		}
	})
	if none < 5 || some < 500 {
		t.Error("too few readings can be told, or cannot:", none, some)
	}
}

// toldOf is what a further reading may tell, by the limits of the survey with
// it; its own two are left out again, those of its tape day are not.
func toldOf(v api.Survey, x api.Reading) (api.Range, bool) {
	tolerance := x.Tolerance
	x.Value, x.Tolerance = 0, 0
	v = plus(v, x)
	s := systemOf(v)
	s.Limits = s.Limits[:len(s.Limits)-2]
	m, ok := apart(s)
	if !ok {
		return api.Range{}, false
	}
	u := 1 + x.Station*len(v.Space.Waters) + x.Water
	f := s.Many
	for j, d := range daysOf(v) {
		if d == (api.TapeDay{Tape: x.Tape, Day: x.Day}) {
			f = len(v.Space.Stations)*len(v.Space.Waters) + 1 + j
		}
	}
	told := api.Range{Lo: max(-m[u][f]-tolerance, 0), Hi: min(m[f][u]+tolerance, 20000-tolerance)}
	if told.Lo > told.Hi {
		return api.Range{}, false
	}
	return told, true
}

func TestErrorsOfTold(t *testing.T) {
	_, invalid := readings()
	full := api.Survey{Space: plainSpace(9, 7, api.Fair{}), Readings: []api.Reading{{Source: 11, Value: 500, Tape: 1, Day: 5}, {Source: 12, Value: 501, Tape: 1, Day: 5}}}
	for _, v := range []api.Survey{example(), falseExample()} {
		for _, x := range invalid {
			if x.Value < 0 || x.Value > api.MaxBreadth-x.Tolerance {
				x.Value, x.Source = 0, 0 // no value counts
			}
			if r, e := offsets.Told(v, x); r != (api.Range{}) || e != api.ErrReading {
				t.Error(x, r, e)
			}
		}
	}
	// A survey that is false, of which the reading's tape day makes too many unknowns, or not.
	for _, c := range []struct {
		x api.Reading
		e api.Errno
	}{
		{api.Reading{Source: 30, Tape: 0, Day: 6}, api.ErrReading},
		{api.Reading{Source: 30, Station: 2, Water: 7, Tape: 1, Day: 6}, api.ErrReading},
		{api.Reading{Source: 30, Tape: 1, Day: 6}, api.ErrLong},
		{api.Reading{Source: 30, Tape: 1, Day: 5}, api.ErrFalse},
	} {
		if r, e := offsets.Told(full, c.x); r != (api.Range{}) || e != c.e {
			t.Error(c, r, e)
		}
	}
}

func TestWith(t *testing.T) {
	valid, invalid := readings()
	for _, v := range []api.Survey{example(), falseExample(), {Space: exampleSpace()}} {
		for _, x := range valid {
			if got, e := offsets.With(v, x); !sameSurvey(got, plus(v, x)) || e != api.OK {
				t.Error(x, got, e)
			}
		}
		for _, x := range invalid {
			if got, e := offsets.With(v, x); !sameSurvey(got, api.Survey{}) || e != api.ErrReading {
				t.Error(x, got, e)
			}
		}
	}
	// The result may be false.
	x := falseExample().Readings[4]
	if got, e := offsets.With(example(), x); !sameSurvey(got, falseExample()) || e != api.OK {
		t.Error(got, e)
	}
}

func TestWithTooMuch(t *testing.T) {
	known, other := api.Reading{Source: 30, Tape: 1, Day: 0}, api.Reading{Source: 30, Tape: 2, Day: 0}
	great, middle, small := plainSpace(9, 7, api.Fair{}), plainSpace(9, 5, api.Fair{}), plainSpace(2, 2, api.Fair{})
	for _, c := range []struct {
		name string
		v    api.Survey
		r    api.Reading
		e    api.Errno
	}{
		{"the last reading", api.Survey{Space: small, Readings: repeated(59, 1)}, known, api.OK},
		{"a reading more", api.Survey{Space: small, Readings: repeated(60, 1)}, known, api.ErrLong},
		{"the last unknown", api.Survey{Space: great}, other, api.OK},
		{"an unknown more", api.Survey{Space: great, Readings: repeated(1, 1)}, other, api.ErrLong},
		{"the last limits", api.Survey{Space: great, Readings: repeated(25, 1)}, known, api.OK},
		{"limits more", api.Survey{Space: great, Readings: repeated(26, 1)}, known, api.ErrLong},
		{"limits of a tape day more", api.Survey{Space: middle, Readings: repeated(59, 1), Compares: comparisons(18)}, other, api.ErrLong},
		{"the last limits of a tape day", api.Survey{Space: middle, Readings: repeated(59, 1), Compares: comparisons(17)}, other, api.OK},
		{"an error ahead of that", api.Survey{Space: small, Readings: repeated(60, 60)}, api.Reading{}, api.ErrReading},
	} {
		got, e := offsets.With(c.v, c.r)
		want := api.Survey{}
		if c.e == api.OK {
			want = plus(c.v, c.r)
		}
		if e != c.e || !sameSurvey(got, want) {
			t.Error(c.name, e)
		}
	}
}
