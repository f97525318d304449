package mark_test

import (
	"math/rand"
	"slices"
	"testing"

	"moorsom/api"
	"moorsom/mark"
	"moorsom/offsets"
)

// box is a survey of a hull whose half-breadths are all the same, read
// without any error.
func box(breadth int, waters ...int) api.Survey {
	v := api.Survey{
		Space:    api.Space{Id: 2, Source: 3, Stations: []int{0, 10000}, Waters: waters},
		Readings: []api.Reading{{Source: 4, Value: breadth, Tape: 1, Day: 1}},
		Compares: []api.Compare{{Source: 5, Tape: 1, To: 1}},
	}
	return v
}

// hollow is a survey of a hull that has 5000 at its first waterline, and
// nothing above: with such distances its litres up to the last one are below 0.
func hollow() api.Survey {
	v := box(5000, 0, 100, 400)
	v.Space.Fair = api.Fair{Along: 0, Up: 100000}
	v.Readings = append(v.Readings, api.Reading{Source: 6, Water: 1, Tape: 1, Day: 1}, api.Reading{Source: 7, Water: 2, Tape: 1, Day: 1})
	return v
}

// TestTable is P6.1: the example, and boxes.
func TestTable(t *testing.T) {
	for _, c := range []struct {
		v    api.Survey
		want []api.Range
	}{
		{example(), []api.Range{{}, {Lo: 190, Hi: 395}}},
		{box(500, 0, 1000), []api.Range{{}, one(10000)}},
		{box(500, 70, 80, 100, 103), []api.Range{{}, one(100), one(300), one(330)}},
		{box(0, 0, 1000), []api.Range{{}, {}}},
		// Up to 100: 5000 / 2 * 100 on both sides of 10 metres; up to 400: 8 * 100 / 36 * -3 * 5000.
		{hollow(), []api.Range{{}, one(5000), one(-6667)}},
		{api.Survey{Space: exampleSpace()}, []api.Range{{}, {Hi: 40000}}},
	} {
		if l, e := mark.Table(c.v); !slices.Equal(l, c.want) || e != api.OK {
			t.Error(c, l, e)
		}
	}
}

// TestRandomTables is P6.3: both ends are those of hulls, and no hull is beyond them.
func TestRandomTables(t *testing.T) {
	wide, below := 0, 0
	ships(t, 66, 300, func(r *rand.Rand, s ship) {
		l, e := mark.Table(s.survey)
		if e != api.OK || len(l) != len(s.survey.Space.Waters) {
			t.Fatal(s.survey, l, e)
		}
		for k, got := range l {
			var all []int
			for _, litres := range s.litres {
				all = append(all, litres[k])
			}
			if want := (api.Range{Lo: slices.Min(all), Hi: slices.Max(all)}); got != want {
				t.Fatal(s.survey, k, got, want)
			}
			if got.Lo < got.Hi {
				wide++
			}
			if got.Lo < 0 {
				below++
			}
		}
	})
	if wide < 200 || below < 20 {
		t.Error("too few of a kind:", wide, below)
	}
}

// TestDisplacement is P6.1: the example, rounding, and litres below 0.
func TestDisplacement(t *testing.T) {
	for _, c := range []struct {
		v           api.Survey
		water       int
		dense, want api.Range
	}{
		{example(), 1, api.Range{Lo: 1000, Hi: 1025}, api.Range{Lo: 190, Hi: 404}},
		{example(), 0, api.Range{Lo: 1000, Hi: 1025}, api.Range{}},
		{example(), 1, api.Range{Lo: 900, Hi: 1100}, api.Range{Lo: 171, Hi: 434}},
		{box(500, 70, 80, 100, 103), 3, api.Range{Lo: 997, Hi: 1003}, api.Range{Lo: 329, Hi: 330}},
		{hollow(), 2, api.Range{Lo: 900, Hi: 1100}, api.Range{Lo: -7334, Hi: -6001}},
		{hollow(), 2, one(1000), one(-6667)},
		{hollow(), 1, one(900), one(4500)},
	} {
		if d, e := mark.Displacement(c.v, c.water, c.dense); d != c.want || e != api.OK {
			t.Error(c, d, e)
		}
	}
}

// TestRandomDisplacements is P6.3, by all hulls and all densities.
func TestRandomDisplacements(t *testing.T) {
	ships(t, 67, 300, func(r *rand.Rand, s ship) {
		lo := 900 + r.Intn(190)
		dense := api.Range{Lo: lo, Hi: lo + r.Intn(11)}
		for k := range s.survey.Space.Waters {
			if d, e := mark.Displacement(s.survey, k, dense); d != s.displacementOf(k, dense) || e != api.OK {
				t.Fatal(s.survey, k, dense, d, s.displacementOf(k, dense), e)
			}
		}
	})
}

// TestDraught is P6.1: waterlines that are just deep enough, and none that is.
func TestDraught(t *testing.T) {
	steps := box(500, 0, 10, 30, 60) // floats 0, 100, 300 and 600 kilograms
	for _, c := range []struct {
		v           api.Survey
		mass, dense api.Range
		want        api.Range
		e           api.Errno
	}{
		{example(), one(100), one(1000), one(1), api.OK},
		{example(), api.Range{}, one(1000), api.Range{}, api.OK},
		{example(), api.Range{Hi: 190}, one(1000), api.Range{Hi: 1}, api.OK},
		{example(), api.Range{Lo: 190, Hi: 191}, one(1000), api.Range{}, api.ErrNone},
		{example(), one(405), api.Range{Lo: 1000, Hi: 1025}, api.Range{}, api.ErrNone},
		{steps, one(100), one(1000), one(1), api.OK},
		{steps, api.Range{Lo: 100, Hi: 101}, one(1000), api.Range{Lo: 1, Hi: 2}, api.OK},
		{steps, api.Range{Lo: 101, Hi: 600}, one(1000), api.Range{Lo: 2, Hi: 3}, api.OK},
		{steps, api.Range{Lo: 301, Hi: 601}, one(1000), api.Range{}, api.ErrNone},
		{steps, one(301), api.Range{Lo: 1000, Hi: 1010}, api.Range{Lo: 2, Hi: 3}, api.OK},
		{steps, one(600), api.Range{Lo: 999, Hi: 1000}, api.Range{}, api.ErrNone},
		{steps, one(1000000000000), one(1100), api.Range{}, api.ErrNone},
		// Up to the second waterline more litres are told than up to the third one.
		{hollow(), one(5000), one(1000), one(1), api.OK},
		{hollow(), one(5001), one(1000), api.Range{}, api.ErrNone},
	} {
		if d, e := mark.Draught(c.v, c.mass, c.dense); d != c.want || e != c.e {
			t.Error(c, d, e)
		}
	}
}

// draughtOf is the first waterline at which a hull floats; it is false if there is none.
func draughtOf(litres []int, mass, dense int) (int, bool) {
	for k, n := range litres {
		if floorDiv(n*dense, 1000) >= mass {
			return k, true
		}
	}
	return 0, false
}

// TestRandomDraughts is P6.7: the draught of each hull, with each density and
// mass, lies within what is told; where nothing is told, some hull does not float.
func TestRandomDraughts(t *testing.T) {
	told, wide, none := 0, 0, 0
	ships(t, 68, 600, func(r *rand.Rand, s ship) {
		mass, dense := randomMass(r, s), api.Range{Lo: 990, Hi: 990 + r.Intn(20)}
		d, e := mark.Draught(s.survey, mass, dense)
		first := func(ask func(x api.Range) bool) int {
			return slices.IndexFunc(s.survey.Space.Waters, func(water int) bool {
				return ask(s.displacementOf(slices.Index(s.survey.Space.Waters, water), dense))
			})
		}
		lo := first(func(x api.Range) bool { return x.Hi >= mass.Lo })
		hi := first(func(x api.Range) bool { return x.Lo >= mass.Hi })
		if hi < 0 {
			none++
			if e != api.ErrNone || d != (api.Range{}) {
				t.Fatal(s.survey, mass, dense, d, e)
			}
			return
		}
		if e != api.OK || d != (api.Range{Lo: lo, Hi: hi}) {
			t.Fatal(s.survey, mass, dense, d, e, lo, hi)
		}
		told++
		if lo < hi {
			wide++
		}
		for _, litres := range s.litres {
			n := mass.Lo + r.Intn(mass.Hi-mass.Lo+1)
			k, floats := draughtOf(litres, n, dense.Lo+r.Intn(dense.Hi-dense.Lo+1))
			if !floats || k < d.Lo || k > d.Hi {
				t.Fatal(s.survey, litres, n, k, d)
			}
		}
	})
	if min(told, none) < 100 || wide < 30 {
		t.Error("too few of a kind:", told, wide, none)
	}
}

// TestFalseShips is P6.1: a survey that no hull keeps tells nothing, at no waterline.
func TestFalseShips(t *testing.T) {
	r := rand.New(rand.NewSource(69))
	for found := 0; found < 40; {
		s := randomShip(t, r)
		if len(s.hulls) > 0 {
			continue
		}
		found++
		if l, e := mark.Table(s.survey); len(l) != 0 || e != api.ErrFalse {
			t.Fatal(s.survey, l, e)
		}
		for k := range s.survey.Space.Waters {
			if d, e := mark.Displacement(s.survey, k, one(1000)); d != (api.Range{}) || e != api.ErrFalse {
				t.Fatal(s.survey, k, d, e)
			}
		}
		for _, mass := range []api.Range{{}, one(1000000000000)} {
			if d, e := mark.Draught(s.survey, mass, one(1000)); d != (api.Range{}) || e != api.ErrFalse {
				t.Fatal(s.survey, d, e)
			}
		}
	}
	mustHold(t, offsets.Check(hollow()))
}
