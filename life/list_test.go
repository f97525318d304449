package life_test

import (
	"slices"
	"testing"

	"moorsom/api"
	"moorsom/life"
)

// union is the events of both lists, by their places; it returns false if two
// of one place differ.
func union(a, b []api.Event) ([]api.Event, bool) {
	found := map[api.Place]api.Event{}
	for _, x := range slices.Concat(a, b) {
		if y, known := found[x.At]; known && !same(x, y) {
			return nil, false
		}
		found[x.At] = x
	}
	var places []api.Place
	for p := range found {
		places = append(places, p)
	}
	var l []api.Event
	for _, p := range inOrder(places) {
		l = append(l, found[p])
	}
	return l, true
}

// some is some events of a list.
func (m maker) some(l []api.Event) []api.Event {
	return slices.DeleteFunc(slices.Clone(l), func(api.Event) bool { return m.Intn(3) == 0 })
}

// TestJoin is P5.3 too: Join is commutative, associative and idempotent.
func TestJoin(t *testing.T) {
	joined := 0
	lists(t, 1, 400, func(m maker, l []api.Event) {
		a, b, c := m.some(l), m.some(l), m.some(l)
		if other := m.list(8); m.Intn(4) == 0 {
			c = other
		}
		for _, two := range [][2][]api.Event{{a, b}, {b, a}, {a, c}, {a, a}, {nil, a}, {a, nil}} {
			got, e := life.Join(two[0], two[1])
			if want, ok := union(two[0], two[1]); ok && (e != api.OK || !same(got, want)) || !ok && (e != api.ErrSame || len(got) != 0) {
				t.Fatal(two, got, e)
			}
		}
		ab, e1 := life.Join(a, b)
		bc, e2 := life.Join(b, c)
		if max(e1, e2) != api.OK {
			return
		}
		left, e1 := life.Join(ab, c)
		right, e2 := life.Join(a, bc)
		if e1 == api.OK && e2 == api.OK {
			joined++
			if !same(left, right) {
				t.Fatal(a, b, c)
			}
		}
	})
	if joined < 200 {
		t.Error("too few lists are joined:", joined)
	}
}

func TestAdd(t *testing.T) {
	errors := map[api.Errno]int{}
	lists(t, 2, 300, func(m maker, l []api.Event) {
		for range 4 {
			x := m.event(1+m.Intn(10), place(m.pick(0, 3, 5, 8), 1+m.Intn(9)))
			if len(l) > 0 && m.Intn(3) == 0 {
				x = l[m.Intn(len(l))]
			}
			got, e := life.Add(l, x)
			want, ok := union(l, []api.Event{x})
			if ok && (e != api.OK || !same(got, want)) || !ok && (e != api.ErrSame || len(got) != 0) {
				t.Fatal(l, x, got, e)
			}
			errors[e]++
		}
	})
	if errors[api.OK] < 100 || errors[api.ErrSame] < 100 {
		t.Error(errors)
	}
}

// TestTooMany: a list that is full takes no more, but what it has.
func TestTooMany(t *testing.T) {
	next := put(flag(5, 5), place(1, 0))
	nextTape := put(tape(5, 0, 5, 0, 5), place(1, 0))
	for _, c := range []struct {
		l []api.Event
		x api.Event
		e api.Errno
	}{
		{many(79, 0), next, api.OK}, {many(80, 0), next, api.ErrLong}, {many(80, 0), many(80, 0)[79], api.OK},
		{many(80, 0), put(flag(5, 5), place(0, 79)), api.ErrSame}, {many(80, 0), put(flag(5, 0), place(1, 0)), api.ErrEvent},
		{many(19, 19), nextTape, api.OK}, {many(20, 20), nextTape, api.ErrLong}, {many(20, 20), next, api.OK},
		{many(20, 20), many(20, 20)[0], api.OK}, {many(20, 20), put(tape(5, 0, 5, 0, 6), place(0, 5)), api.ErrSame},
	} {
		want := 0
		if c.e == api.OK {
			l, _ := union(c.l, []api.Event{c.x})
			want = len(l)
		}
		if l, e := life.Add(c.l, c.x); e != c.e || len(l) != want {
			t.Error(len(c.l), c.x, len(l), e)
		}
		if c.e != api.ErrEvent {
			for _, two := range [][2][]api.Event{{c.l, {c.x}}, {{c.x}, c.l}} {
				if l, e := life.Join(two[0], two[1]); e != c.e || len(l) != want {
					t.Error(len(c.l), c.x, len(l), e)
				}
			}
		}
	}
	// Two events of one place that differ are told ahead of lists that are too long.
	if l, e := life.Join(many(80, 0), append(many(80, 20)[70:], many(1, 0)[0])); e != api.ErrEvents || len(l) != 0 {
		t.Error(l, e)
	}
	long := append(many(80, 0)[1:], next)
	if l, e := life.Join(many(80, 0), long); e != api.ErrLong || len(l) != 0 {
		t.Error(l, e)
	}
	long[0].Num = 9
	if l, e := life.Join(many(80, 0), long); e != api.ErrSame || len(l) != 0 {
		t.Error(l, e)
	}
}

// TestSamePlaces: events of one place that differ in anything are not the same.
func TestSamePlaces(t *testing.T) {
	for _, x := range plain() {
		for _, p := range append(common(), named()...) {
			for _, n := range p.in[x.Kind] {
				y := x
				p.set(&y, n)
				if y.At != x.At {
					continue
				}
				want := api.ErrSame
				if same(x, y) {
					want = api.OK
				}
				if _, e := life.Add([]api.Event{x}, y); e != want {
					t.Error(p.name, x, y, e)
				}
				if _, e := life.Join([]api.Event{x}, []api.Event{y}); e != want {
					t.Error(p.name, x, y, e)
				}
			}
		}
	}
}

func TestWithout(t *testing.T) {
	lists(t, 3, 200, func(m maker, l []api.Event) {
		for _, x := range l {
			if got, e := life.Without(l, x.At); e != api.OK || !same(got, less(l, x.At)) {
				t.Fatal(l, x.At, got, e)
			}
		}
		for _, p := range []api.Place{place(1, 0), place(0, 9999), place(-1, 0), place(9, 0), place(3, -1)} {
			if got, e := life.Without(l, p); e != api.ErrNone || len(got) != 0 {
				t.Fatal(l, p, got, e)
			}
		}
	})
	if l, e := life.Without(nil, api.Place{}); e != api.ErrNone || len(l) != 0 {
		t.Error(l, e)
	}
}
