package bound_test

import (
	"math"
	"slices"
	"testing"

	"moorsom/api"
	"moorsom/bound"
)

func TestCheckLimit(t *testing.T) {
	good := []struct {
		many int
		l    api.Limit
	}{
		{1, api.Limit{A: 0, B: 1, Most: 0, By: 1}},
		{1, api.Limit{A: 1, B: 0, Most: api.MaxMost, By: api.MaxSource}},
		{3, api.Limit{A: 3, B: 2, Most: -api.MaxMost, By: 7}},
		{api.MaxUnknowns, api.Limit{A: api.MaxUnknowns, B: 0, Most: 5, By: 7}},
		{api.MaxUnknowns, api.Limit{A: 0, B: api.MaxUnknowns, Most: 5, By: 7}},
	}
	for _, c := range good {
		mustHold(t, bound.CheckLimit(c.many, c.l), c)
	}
	bad := []struct {
		many int
		l    api.Limit
	}{
		{0, api.Limit{A: 0, B: 1, Most: 0, By: 1}},
		{0, api.Limit{A: 0, B: 0, Most: 0, By: 1}},
		{-1, api.Limit{A: 0, B: 1, Most: 0, By: 1}},
		{api.MaxUnknowns + 1, api.Limit{A: 0, B: 1, Most: 0, By: 1}},
		{math.MaxInt, api.Limit{A: 0, B: 1, Most: 0, By: 1}},
		{math.MinInt, api.Limit{A: 0, B: 1, Most: 0, By: 1}},
		{2, api.Limit{A: 1, B: 1, Most: 0, By: 1}},
		{2, api.Limit{A: 0, B: 0, Most: 0, By: 1}},
		{2, api.Limit{A: -1, B: 1, Most: 0, By: 1}},
		{2, api.Limit{A: 1, B: -1, Most: 0, By: 1}},
		{2, api.Limit{A: 3, B: 1, Most: 0, By: 1}},
		{2, api.Limit{A: 1, B: 3, Most: 0, By: 1}},
		{2, api.Limit{A: math.MinInt, B: math.MaxInt, Most: 0, By: 1}},
		{2, api.Limit{A: 0, B: 1, Most: api.MaxMost + 1, By: 1}},
		{2, api.Limit{A: 0, B: 1, Most: -api.MaxMost - 1, By: 1}},
		{2, api.Limit{A: 0, B: 1, Most: math.MinInt, By: 1}},
		{2, api.Limit{A: 0, B: 1, Most: 0, By: 0}},
		{2, api.Limit{A: 0, B: 1, Most: 0, By: -1}},
		{2, api.Limit{A: 0, B: 1, Most: 0, By: api.MaxSource + 1}},
		{2, api.Limit{}},
	}
	for _, c := range bad {
		if e := bound.CheckLimit(c.many, c.l); e != api.ErrLimit {
			t.Error(c, e)
		}
	}
}

func TestCheck(t *testing.T) {
	l := api.Limit{A: 0, B: 1, Most: 1, By: 1}
	for _, s := range []api.System{
		{}, {Many: api.MaxUnknowns}, {Many: 5, Limits: []api.Limit{}}, example(), openExample(), looseExample(),
		{Many: 1, Limits: slices.Repeat([]api.Limit{l}, api.MaxLimits)},
		chainSystem(api.MaxMost),
	} {
		mustHold(t, bound.Check(s), s)
	}
	for _, c := range invalidSystems() {
		if e := bound.Check(c.s); e != c.e {
			t.Error(c.s.Many, len(c.s.Limits), e, "want", c.e)
		}
	}
}

func TestWith(t *testing.T) {
	s := example()
	l := api.Limit{A: 2, B: 0, Most: -13, By: 9}
	got, e := bound.With(s, l)
	if e != api.OK || !sameSystem(got, openExample()) || !sameSystem(s, example()) {
		t.Error(got, e, s)
	}
	// The same limit may come twice.
	if got, e = bound.With(got, l); e != api.OK || len(got.Limits) != 9 || got.Limits[8] != l {
		t.Error(got, e)
	}
	if got, e := bound.With(api.System{Many: 2}, l); e != api.OK || got.Many != 2 || !slices.Equal(got.Limits, []api.Limit{l}) {
		t.Error(got, e)
	}
	full := api.System{Many: 2, Limits: slices.Repeat([]api.Limit{l}, api.MaxLimits)}
	for _, c := range []struct {
		s api.System
		l api.Limit
		e api.Errno
	}{
		{api.System{Many: 2, Limits: full.Limits[1:]}, l, api.OK},
		{full, l, api.ErrLong},
		{full, api.Limit{}, api.ErrLimit},
		{s, api.Limit{A: 0, B: 4, Most: 1, By: 1}, api.ErrLimit},
		{api.System{}, api.Limit{A: 0, B: 1, Most: 1, By: 1}, api.ErrLimit},
		{api.System{Many: -1}, l, api.ErrSystem},
		{api.System{Many: 2, Limits: append(slices.Clone(full.Limits), l)}, api.Limit{}, api.ErrLong},
		{api.System{Many: 2, Limits: []api.Limit{{}}}, l, api.ErrLimit},
	} {
		got, e := bound.With(c.s, c.l)
		if e != c.e || e != api.OK && !isZero(got) {
			t.Error(c.s.Many, len(c.s.Limits), c.l, got.Many, len(got.Limits), e, "want", c.e)
		}
	}
}
