package mark_test

import (
	"math/rand"
	"slices"
	"testing"

	"moorsom/api"
	"moorsom/mark"
	"moorsom/offsets"
)

// TestJudge is P6.1: the examples, and masses that are just kept.
func TestJudge(t *testing.T) {
	v, l, r := example(), exampleLines(), exampleRoute()
	low := linesWith(func(l *api.Lines) { l.Depth = 1149 }) // the mark is the first waterline
	for _, c := range []struct {
		l       api.Lines
		mass    api.Range
		answers []int
		judged  int
	}{
		{l, api.Range{Lo: 150, Hi: 160}, []int{api.Yes, api.Yes}, api.Yes},
		{l, api.Range{Lo: 180, Hi: 200}, []int{api.Maybe, api.Maybe}, api.Maybe},
		{l, one(500), []int{api.No, api.No}, api.No},
		{l, api.Range{}, []int{api.Yes, api.Yes}, api.Yes},
		{l, one(190), []int{api.Yes, api.Yes}, api.Yes},
		{l, api.Range{Lo: 190, Hi: 191}, []int{api.Maybe, api.Yes}, api.Maybe},
		{l, one(195), []int{api.Maybe, api.Yes}, api.Maybe},
		{l, one(404), []int{api.Maybe, api.Maybe}, api.Maybe},
		{l, one(405), []int{api.No, api.Maybe}, api.No},
		{l, api.Range{Lo: 404, Hi: 500}, []int{api.Maybe, api.Maybe}, api.Maybe},
		{low, api.Range{}, []int{api.Yes, api.Yes}, api.Yes},
		{low, api.Range{Lo: 0, Hi: 5}, []int{api.Maybe, api.Yes}, api.Maybe},
		{low, one(5), []int{api.No, api.Yes}, api.No},
		{low, one(6), []int{api.No, api.Maybe}, api.No},
	} {
		if got, e := mark.Answers(v, c.l, r, c.mass); !slices.Equal(got, c.answers) || e != api.OK {
			t.Error(c, got, e)
		}
		if got, e := mark.Judge(v, c.l, r, c.mass); got != c.judged || e != api.OK {
			t.Error(c, got, e)
		}
	}
}

// judgeOf joins answers.
func judgeOf(answers []int) int {
	switch {
	case slices.Contains(answers, api.No):
		return api.No
	case slices.Contains(answers, api.Maybe):
		return api.Maybe
	}
	return api.Yes
}

// TestRandomAnswers is P6.2 and P6.3: the answers are those that all hulls,
// densities and masses give, one by one.
func TestRandomAnswers(t *testing.T) {
	var all [3]int
	departures(t, 70, 1000, func(_ *rand.Rand, d departure) {
		want := d.answersOf(d.mass)
		if got, e := mark.Answers(d.survey, d.lines, d.route, d.mass); !slices.Equal(got, want) || e != api.OK {
			t.Fatal(d.survey, d.lines, d.route, d.mass, got, e, want)
		}
		if got, e := mark.Judge(d.survey, d.lines, d.route, d.mass); got != judgeOf(want) || e != api.OK {
			t.Fatal(d.survey, d.lines, d.route, d.mass, got, e, want)
		}
		all[judgeOf(want)]++
	})
	if slices.Min(all[:]) < 120 {
		t.Error("too few answers of a kind:", all)
	}
}

// judged is the answer for a route.
func judged(t *testing.T, v api.Survey, l api.Lines, r api.Route, mass api.Range) int {
	t.Helper()
	n, e := mark.Judge(v, l, r, mass)
	mustHold(t, e, v, l, r, mass)
	return n
}

// TestSure is P6.1: the example, what is burnt, and marks that bear nothing.
func TestSure(t *testing.T) {
	l := exampleLines()
	low := linesWith(func(l *api.Lines) { l.Depth = 1149 })
	route := func(change func(x, y *api.Leg)) api.Route {
		r := exampleRoute()
		change(&r.Legs[0], &r.Legs[1])
		return r
	}
	winter := func(x, y *api.Leg) { y.Zone = 2 } // in the second leg the mark is the first waterline
	for _, c := range []struct {
		v    api.Survey
		l    api.Lines
		r    api.Route
		want int
	}{
		{example(), l, exampleRoute(), 190},
		{example(), low, exampleRoute(), 0},
		{example(), l, route(winter), 5},
		{example(), l, route(func(x, y *api.Leg) { winter(x, y); x.Burn = one(189) }), 189},
		{example(), l, route(func(x, y *api.Leg) { winter(x, y); x.Burn = one(1000000000000) }), 190},
		{example(), l, route(func(x, y *api.Leg) { x.Dense, y.Dense = one(1100), one(1000) }), 195},
		{box(20000, 0, 1000), l, exampleRoute(), 400000},
		{hollow(), linesWith(func(l *api.Lines) { l.Depth = 300 }), exampleRoute(), 5000},
	} {
		if n, e := mark.Sure(c.v, c.l, c.r); n != c.want || e != api.OK {
			t.Error(c, n, e)
		}
	}
	if n, e := mark.Sure(hollow(), l, exampleRoute()); n != 0 || e != api.ErrNone {
		t.Error(n, e)
	}
	// Where all is burnt on the way, the second leg still has no mass that its mark keeps.
	r := route(func(x, y *api.Leg) { x.Zone, x.Burn = 3, one(1000000000000) })
	deep := linesWith(func(l *api.Lines) { l.Seasons = []api.Season{{Zone: 3, From: 1, To: 365, Extra: 700}} })
	if n, e := mark.Sure(hollow(), deep, r); n != 0 || e != api.ErrNone {
		t.Error(n, e)
	}
}

// TestRandomSure is P6.4: with this mass and each lesser one the answer is
// Yes, with a greater one it is not.
func TestRandomSure(t *testing.T) {
	found, none, burnt := 0, 0, 0
	departures(t, 71, 800, func(r *rand.Rand, d departure) {
		n, e := mark.Sure(d.survey, d.lines, d.route)
		if e == api.ErrNone {
			none++
			if n != 0 || judgeOf(d.answersOf(api.Range{})) == api.Yes {
				t.Fatal(d.survey, d.lines, d.route, n)
			}
			return
		}
		mustHold(t, e, d.survey, d.lines, d.route)
		found++
		for _, less := range []int{0, n, r.Intn(n + 1), max(n-1, 0)} {
			if judged(t, d.survey, d.lines, d.route, one(less)) != api.Yes || judgeOf(d.answersOf(one(less))) != api.Yes {
				t.Fatal(d.survey, d.lines, d.route, n, less)
			}
		}
		for _, more := range []int{n + 1, n + 1 + r.Intn(10000), 1000000000000} {
			if judged(t, d.survey, d.lines, d.route, one(more)) == api.Yes || judgeOf(d.answersOf(one(more))) == api.Yes {
				t.Fatal(d.survey, d.lines, d.route, n, more)
			}
		}
		if answers := d.answersOf(one(n + 1)); answers[0] == api.Yes {
			burnt++
		}
	})
	if found < 500 || none < 30 || burnt < 30 {
		t.Error("too few of a kind:", found, none, burnt)
	}
}

// narrower is a range of some numbers of another one.
func narrower(r *rand.Rand, x api.Range) api.Range {
	lo := x.Lo + r.Intn(x.Hi-x.Lo+1)
	return api.Range{Lo: lo, Hi: lo + r.Intn(x.Hi-lo+1)}
}

// TestNarrower is P6.6: with one more reading, a lesser mass and narrower
// densities an answer Yes stays.
func TestNarrower(t *testing.T) {
	yes, read := 0, 0
	departures(t, 72, 800, func(r *rand.Rand, d departure) {
		if judged(t, d.survey, d.lines, d.route, d.mass) != api.Yes {
			return
		}
		yes++
		v, route := d.survey, api.Route{Legs: slices.Clone(d.route.Legs)}
		mass := api.Range{Lo: r.Intn(d.mass.Lo + 1), Hi: d.mass.Hi - r.Intn(d.mass.Hi-d.mass.Lo+1)}
		for i := range route.Legs {
			route.Legs[i].Dense = narrower(r, route.Legs[i].Dense)
		}
		x := api.Reading{Source: 40, Station: r.Intn(2), Water: r.Intn(2), Tolerance: r.Intn(2), Tape: 1, Day: 1}
		if told, e := offsets.Told(v, x); e == api.OK {
			read++
			x.Value = told.Lo + r.Intn(told.Hi-told.Lo+1)
			v = plus(v, x)
		}
		n, e := mark.Judge(v, d.lines, route, mass)
		if e != api.ErrFalse && (n != api.Yes || e != api.OK) {
			t.Fatal(v, d.lines, route, mass, n, e)
		}
	})
	if min(yes, read) < 150 {
		t.Error("too few of a kind:", yes, read)
	}
}
