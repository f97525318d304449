package offsets_test

import (
	"math/big"
	"math/rand"
	"testing"

	"moorsom/api"
	"moorsom/offsets"
)

// TestHulls is P3.2: what a real hull has that keeps a survey lies within
// what is told, whatever the errors of the tapes are.
func TestHulls(t *testing.T) {
	trueSurveys(t, 15, func(r *rand.Rand, f found) {
		all := whats(f.survey.Space)
		hulls := []realHull{f.hull}
		for range 3 {
			lo, e1 := offsets.Attain(f.survey, all[r.Intn(len(all))], false)
			hi, e2 := offsets.Attain(f.survey, all[r.Intn(len(all))], true)
			mustHold(t, max(e1, e2), f.survey)
			hulls = append(hulls, between(lo, hi, 1+r.Intn(6), 7))
		}
		for _, h := range hulls {
			if !h.keeps(f.survey) {
				t.Fatal("the hull does not keep the survey:", f.survey, h)
			}
			for _, w := range all {
				if n, lies := h.value(f.survey.Space, w), rangeOf(t, f.survey, w); n < lies.Lo || n > lies.Hi {
					t.Fatal(f.survey, h, w, n, lies)
				}
			}
			for _, d := range daysOf(f.survey) {
				lies, e := offsets.Tape(f.survey, d)
				lo, hi := h.errorsOf(f.survey, d)
				if e != api.OK || lo < lies.Lo*h.parts || hi > lies.Hi*h.parts {
					t.Fatal(f.survey, h, d, lies, lo, hi, e)
				}
			}
		}
	})
}

// rangeOf is the range of a quantity of a true survey.
func rangeOf(t *testing.T, v api.Survey, w api.What) api.Range {
	t.Helper()
	r, e := offsets.Bound(v, w)
	mustHold(t, e, v, w)
	return r
}

// TestEnds is P3.2 too: CheckHull accepts Attain's hull, and it has the quantity that it is to have.
func TestEnds(t *testing.T) {
	trueSurveys(t, 16, func(r *rand.Rand, f found) {
		for _, w := range whats(f.survey.Space) {
			if r.Intn(3) > 0 { // some are enough
				continue
			}
			ends := rangeOf(t, f.survey, w)
			for _, high := range []bool{true, false} {
				h, e := offsets.Attain(f.survey, w, high)
				mustHold(t, e, f.survey, w)
				mustHold(t, offsets.CheckHull(f.survey, h), f.survey, w, h)
				if n, e := offsets.Value(f.survey.Space, h, w); n != endOf(ends, high) || e != api.OK {
					t.Fatal(f.survey, w, high, h, n, e)
				}
			}
		}
	})
}

// TestEachNumberBetween is P3.2 too: each whole number of a range is the
// quantity of a real hull, which lies between those of both ends.
func TestEachNumberBetween(t *testing.T) {
	tried := 0
	trueSurveys(t, 17, func(r *rand.Rand, f found) {
		all := whats(f.survey.Space)
		w := all[r.Intn(len(all))]
		ends := rangeOf(t, f.survey, w)
		lo, e1 := offsets.Attain(f.survey, w, false)
		hi, e2 := offsets.Attain(f.survey, w, true)
		mustHold(t, max(e1, e2), f.survey, w)
		_, divisor := tableOf(f.survey.Space, w)
		first, last := whole(lo).sum(f.survey.Space, w), whole(hi).sum(f.survey.Space, w)
		far := max(last-first, 1)
		if far > 1<<48 { // parts so small that the offsets would be no ints
			return
		}
		for range 10 {
			tried++
			n := ends.Lo + r.Intn(ends.Hi-ends.Lo+1)
			h := between(lo, hi, max(n*divisor, first)-first, far)
			if !h.keeps(f.survey) || !h.has(f.survey.Space, w, n) {
				t.Fatal(f.survey, w, n, h)
			}
		}
	})
	if tried < 2000 {
		t.Error("too few hulls are tried:", tried)
	}
}

// has reports whether a quantity of a real hull is a number, also where its sum is no int.
func (h realHull) has(s api.Space, w api.What, n int) bool {
	table, divisor := tableOf(s, w)
	sum := new(big.Int)
	for i, row := range table {
		for k, weight := range row {
			product := new(big.Int).Mul(big.NewInt(int64(weight)), big.NewInt(int64(h.rows[i][k])))
			sum.Add(sum, product)
		}
	}
	unit := new(big.Int).Mul(big.NewInt(int64(h.parts)), big.NewInt(int64(divisor)))
	value := new(big.Int).Div(sum, unit) // rounded down, as the unit is above 0
	return value.Cmp(big.NewInt(int64(n))) == 0
}

// TestMoreIsNarrower is P3.5: with one more reading, or one more comparison
// of a tape that was used, no range is wider.
func TestMoreIsNarrower(t *testing.T) {
	narrower := 0
	within := func(a, b api.Range) bool {
		if a != b {
			narrower++
		}
		return b.Lo <= a.Lo && a.Hi <= b.Hi
	}
	trueSurveys(t, 18, func(r *rand.Rand, f found) {
		v := f.survey
		more := v
		days := daysOf(v)
		if x := randomReading(r, v.Space, 3, 4); r.Intn(2) == 0 || len(days) == 0 {
			told, e := offsets.Told(v, x)
			if e != api.OK {
				return
			}
			x.Value = told.Lo + r.Intn(told.Hi-told.Lo+1)
			more = plus(v, x)
		} else {
			d := days[r.Intn(len(days))]
			lies, _ := offsets.Tape(v, d)
			n := lies.Lo + r.Intn(lies.Hi-lies.Lo+1)
			more.Compares = append(copyOf(v).Compares, api.Compare{Source: 9, Tape: d.Tape, From: d.Day, To: d.Day, Lo: n, Hi: min(n+5, 1000)})
		}
		for _, w := range whats(v.Space) {
			if !within(rangeOf(t, more, w), rangeOf(t, v, w)) {
				t.Fatal(v, more, w)
			}
		}
		for _, d := range days {
			a, e1 := offsets.Tape(more, d)
			b, e2 := offsets.Tape(v, d)
			if max(e1, e2) != api.OK || !within(a, b) {
				t.Fatal(v, more, d)
			}
		}
	})
	if narrower < 200 {
		t.Error("too few ranges are narrower:", narrower)
	}
}

// TestOthersDoNotMatter is P3.5 too: without a source that is not in Rests the range is the same.
func TestOthersDoNotMatter(t *testing.T) {
	trueSurveys(t, 19, func(r *rand.Rand, f found) {
		all := whats(f.survey.Space)
		w := all[r.Intn(len(all))]
		rests, e := offsets.Rests(f.survey, w)
		mustHold(t, e, f.survey, w)
		sources, e := offsets.Sources(f.survey)
		mustHold(t, e, f.survey)
		matters := map[int]bool{}
		for _, source := range rests {
			matters[source] = true
		}
		for _, source := range sources {
			left, e := offsets.Without(f.survey, source)
			if e == api.ErrNone && source == f.survey.Space.Source {
				continue
			}
			mustHold(t, e, f.survey, source)
			if same := rangeOf(t, left, w) == rangeOf(t, f.survey, w); same == matters[source] {
				t.Fatal(f.survey, w, source, rests)
			}
		}
	})
}

// TestReadAgain is P3.6: an offset of the real hull, read once more by a tape
// that was used, within the tolerance, lies within Told, and the hull keeps
// the survey with it.
func TestReadAgain(t *testing.T) {
	again := 0
	trueSurveys(t, 20, func(r *rand.Rand, f found) {
		for _, d := range daysOf(f.survey) {
			x := randomReading(r, f.survey.Space, 1, 1)
			x.Tape, x.Day = d.Tape, d.Day
			value, ok := f.readAs(r, x)
			if !ok {
				continue
			}
			again++
			if told, e := offsets.Told(f.survey, x); e != api.OK || value < told.Lo || value > told.Hi {
				t.Fatal(f.survey, f.hull, x, value, told, e)
			}
			x.Value = value
			more, e := offsets.With(f.survey, x)
			if e != api.OK || !f.hull.keeps(more) {
				t.Fatal(f.survey, f.hull, x, e)
			}
			if _, e := offsets.Clash(more); e != api.ErrNone {
				t.Fatal(f.survey, f.hull, x, e)
			}
			if f.hull.parts == 1 {
				mustHold(t, offsets.CheckHull(more, api.Hull{Rows: f.hull.rows}), more, f.hull)
			}
		}
	})
	if again < 200 {
		t.Error("too few offsets are read again:", again)
	}
}
