package mark_test

import (
	"math"
	"math/rand"
	"slices"
	"testing"

	"moorsom/api"
	"moorsom/mark"
)

// legWith is a leg of the example with something else.
func legWith(change func(x *api.Leg)) api.Leg {
	x := exampleRoute().Legs[0]
	change(&x)
	return x
}

func validLegs() []api.Leg {
	return []api.Leg{
		legWith(func(x *api.Leg) {}),
		legWith(func(x *api.Leg) { x.Zone, x.From, x.To = 20, 0, 0 }),
		legWith(func(x *api.Leg) { x.From, x.To = 0, 100000 }),
		legWith(func(x *api.Leg) { x.From, x.To = 100000, 100000 }),
		legWith(func(x *api.Leg) { x.Dense = api.Range{Lo: 900, Hi: 1100} }),
		legWith(func(x *api.Leg) { x.Dense, x.Burn = one(1100), one(0) }),
		legWith(func(x *api.Leg) { x.Dense, x.Burn = one(900), one(1000000000000) }),
		legWith(func(x *api.Leg) { x.Burn = api.Range{Lo: 0, Hi: 1000000000000} }),
	}
}

// wrongRanges are none of numbers from lo to hi.
func wrongRanges(lo, hi int) []api.Range {
	return []api.Range{
		{Lo: lo - 1, Hi: lo}, {Lo: lo - 1, Hi: hi}, {Lo: hi, Hi: hi + 1}, {Lo: lo, Hi: hi + 1}, {Lo: lo + 1, Hi: lo}, {Lo: hi, Hi: lo},
		one(lo - 1), one(hi + 1), {Lo: math.MinInt, Hi: math.MaxInt}, {Lo: math.MaxInt, Hi: math.MinInt}, one(math.MinInt), one(math.MaxInt),
	}
}

func wrongMasses() []api.Range { return wrongRanges(0, 1000000000000) }

func wrongDenses() []api.Range { return append(wrongRanges(900, 1100), api.Range{}) }

func invalidLegs() []api.Leg {
	l := []api.Leg{{}}
	for _, zone := range []int{0, -1, 21, math.MinInt, math.MaxInt} {
		l = append(l, legWith(func(x *api.Leg) { x.Zone = zone }))
	}
	for _, days := range wrongRanges(0, 100000) {
		l = append(l, legWith(func(x *api.Leg) { x.From, x.To = days.Lo, days.Hi }))
	}
	for _, dense := range wrongDenses() {
		l = append(l, legWith(func(x *api.Leg) { x.Dense = dense }))
	}
	for _, burn := range wrongMasses() {
		l = append(l, legWith(func(x *api.Leg) { x.Burn = burn }))
	}
	return l
}

// days is a route with legs from and to these days.
func days(l ...int) api.Route {
	var r api.Route
	for i := 0; i < len(l); i += 2 {
		r.Legs = append(r.Legs, legWith(func(x *api.Leg) { x.From, x.To = l[i], l[i+1] }))
	}
	return r
}

func invalidRoutes() []api.Route {
	l := []api.Route{{}, {Legs: []api.Leg{}}, {Legs: make([]api.Leg, 13)}, {Legs: slices.Repeat(days(5, 5).Legs, 13)},
		days(10, 20, 19, 30), days(10, 20, 0, 5), days(0, 1, 1, 3, 2, 4)}
	for _, x := range invalidLegs() {
		l = append(l, api.Route{Legs: []api.Leg{x}}, api.Route{Legs: append(days(0, 0).Legs, x)})
	}
	return l
}

// TestCheckRoute is P6.1: what is valid, up to all limits.
func TestCheckRoute(t *testing.T) {
	valid := []api.Route{exampleRoute(), {Legs: slices.Repeat(days(5, 5).Legs, 12)}, days(0, 0, 0, 0), days(0, 10, 10, 10, 11, 100000)}
	for _, x := range validLegs() {
		valid = append(valid, api.Route{Legs: []api.Leg{x}})
	}
	for _, r := range valid {
		if e := mark.CheckRoute(r); e != api.OK {
			t.Error(r, e)
		}
	}
	for _, r := range invalidRoutes() {
		if e := mark.CheckRoute(r); e != api.ErrRoute {
			t.Error(r, e)
		}
	}
}

// TestMasses is P6.1: what is burnt, and that no mass is below 0.
func TestMasses(t *testing.T) {
	route := func(burns ...api.Range) api.Route {
		var r api.Route
		for _, b := range burns {
			r.Legs = append(r.Legs, steady(b))
		}
		return r
	}
	for _, c := range []struct {
		route api.Route
		mass  api.Range
		want  []api.Range
	}{
		{exampleRoute(), api.Range{Lo: 150, Hi: 160}, []api.Range{{Lo: 150, Hi: 160}, {Lo: 140, Hi: 155}, {Lo: 130, Hi: 150}}},
		{route(one(0)), one(0), []api.Range{{}, {}}},
		{route(one(7)), one(6), []api.Range{one(6), {}}},
		{route(api.Range{Lo: 3, Hi: 8}, api.Range{Lo: 3, Hi: 8}), api.Range{Lo: 5, Hi: 6}, []api.Range{{Lo: 5, Hi: 6}, {Lo: 0, Hi: 3}, {}}},
		{route(api.Range{Hi: 1000000000000}), one(1000000000000), []api.Range{one(1000000000000), {Hi: 1000000000000}}},
	} {
		if l, e := mark.Masses(c.route, c.mass); !slices.Equal(l, c.want) || e != api.OK {
			t.Error(c, l, e)
		}
	}
	r := rand.New(rand.NewSource(65))
	for range 1000 {
		x, lo := randomRoute(r), r.Intn(6000)
		mass := api.Range{Lo: lo, Hi: lo + r.Intn(3000)}
		if l, e := mark.Masses(x, mass); !slices.Equal(l, massesOf(x, mass)) || e != api.OK {
			t.Fatal(x, mass, l, e)
		}
	}
}
