package code_test

import (
	"testing"

	"moorsom/api"
	"moorsom/code"
)

// rooms returns valid rooms at all bounds, and invalid ones.
func rooms() (valid, invalid []api.Room) {
	plain := api.Room{Id: 5, Kind: 5, Opening: 5, Crew: 5, Litres: api.Range{Lo: 5, Hi: 50}}
	for _, c := range []struct {
		set     func(r *api.Room, n int)
		in, out []int
	}{
		{func(r *api.Room, n int) { r.Id = n }, []int{1, 999}, []int{-1, 0, 1000}},
		{func(r *api.Room, n int) { r.Kind = n }, []int{1, 9}, []int{-1, 0, 10}},
		{func(r *api.Room, n int) { r.Opening = n }, []int{0, 1000}, []int{-1, 1001}},
		{func(r *api.Room, n int) { r.Crew = n }, []int{0, 999}, []int{-1, 1000}},
		{func(r *api.Room, n int) { r.Litres.Lo = n }, []int{0, 50}, []int{-1, 51}},
		{func(r *api.Room, n int) { r.Litres.Hi = n }, []int{5, 1000000000}, []int{-1, 4, 1000000001}},
	} {
		for _, n := range c.in {
			r := plain
			c.set(&r, n)
			valid = append(valid, r)
		}
		for _, n := range c.out {
			r := plain
			c.set(&r, n)
			invalid = append(invalid, r)
		}
	}
	return append(valid, plain), append(invalid, api.Room{})
}

func TestCheckRoom(t *testing.T) {
	valid, invalid := rooms()
	for _, r := range valid {
		if e := code.CheckRoom(r); e != api.OK {
			t.Error(r, e)
		}
	}
	for _, r := range invalid {
		if e := code.CheckRoom(r); e != api.ErrRoom {
			t.Error(r, e)
		}
	}
}

// many returns so many valid rooms.
func many(n int) []api.Room {
	var l []api.Room
	for i := range n {
		l = append(l, api.Room{Id: 2 * (i + 1), Kind: 1, Litres: api.Range{Hi: 1000000000}})
	}
	return l
}

// invalidRooms returns lists of rooms that are not valid.
func invalidRooms() [][]api.Room {
	lists := [][]api.Room{many(21), {many(2)[1], many(2)[0]}, {many(1)[0], many(1)[0]}}
	_, invalid := rooms()
	for _, r := range invalid {
		lists = append(lists, []api.Room{{Id: 1, Kind: 1}, r}, []api.Room{r, {Id: 999, Kind: 1}}, []api.Room{r})
	}
	last := many(20)
	last[19].Id = last[18].Id
	return append(lists, last)
}

func TestCheckRooms(t *testing.T) {
	valid, _ := rooms()
	for _, r := range valid {
		if e := code.CheckRooms([]api.Room{r}); e != api.OK {
			t.Error(r, e)
		}
	}
	for _, l := range [][]api.Room{nil, {}, many(1), many(2), many(20), exampleRooms(), {{Id: 1, Kind: 1}, {Id: 2, Kind: 1}}} {
		if e := code.CheckRooms(l); e != api.OK {
			t.Error(l, e)
		}
	}
	for _, l := range invalidRooms() {
		if e := code.CheckRooms(l); e != api.ErrRoom {
			t.Error(l, e)
		}
	}
}

// repeat returns a list with a value so many times.
func repeat[T any](n int, value T) []T {
	var l []T
	for range n {
		l = append(l, value)
	}
	return l
}

// steps returns so many pieces.
func steps(n int) []api.Piece {
	var l []api.Piece
	for i := range n {
		l = append(l, api.Piece{From: i * 10, Base: i, Rate: 1})
	}
	return l
}

// ways returns what may be set in a valid version: the one that leaves it
// valid, and the one that does not.
func ways() (valid, invalid []func(v *api.Version)) {
	put := func(p api.Put) func(*api.Version) {
		return func(v *api.Version) { v.Puts = append(v.Puts, p) }
	}
	test := func(x api.Test) func(*api.Version) {
		return put(api.Put{Group: 1, Tests: []api.Test{{Of: 1, How: 1, Num: 1}, x}})
	}
	line := func(f, g int, l ...api.Piece) func(*api.Version) {
		return func(v *api.Version) { v.Lines[f][g] = l }
	}
	valid = []func(*api.Version){
		func(*api.Version) {},
		func(v *api.Version) { v.From = 0 }, func(v *api.Version) { v.From = 100000 },
		func(v *api.Version) { v.Puts = nil }, func(v *api.Version) { v.Puts = repeat(20, api.Put{Group: 5}) },
		put(api.Put{}), put(api.Put{Group: 5}), put(api.Put{Group: 1, Tests: repeat(4, api.Test{Of: 2, How: 2})}),
		test(api.Test{Of: 1, How: 1}), test(api.Test{Of: 2, How: 2, Num: 1000}), test(api.Test{Of: 3, How: 3, Num: 7}),
		test(api.Test{Of: 3, How: 4}), test(api.Test{Of: 3, How: 5}), test(api.Test{Of: 3, How: 6}),
		func(v *api.Version) { v.Lines = [2][5][]api.Piece{} },
	}
	invalid = []func(*api.Version){
		func(v *api.Version) { v.From = -1 }, func(v *api.Version) { v.From = 100001 },
		func(v *api.Version) { v.Puts = repeat(21, api.Put{Group: 1}) },
		put(api.Put{Group: -1}), put(api.Put{Group: 6}), put(api.Put{Group: 1, Tests: repeat(5, api.Test{Of: 1, How: 1})}),
		test(api.Test{Of: 0, How: 1}), test(api.Test{Of: 4, How: 1}), test(api.Test{Of: -1, How: 1}),
		test(api.Test{Of: 1, How: 0}), test(api.Test{Of: 1, How: 7}), test(api.Test{Of: 1, How: -1}),
		test(api.Test{Of: 1, How: 1, Num: -1}), test(api.Test{Of: 1, How: 1, Num: 1001}),
	}
	for f := range 2 {
		for g := range 5 {
			valid = append(valid,
				line(f, g, api.Piece{}), line(f, g, steps(8)...), line(f, g, api.Piece{}, api.Piece{From: 1}),
				line(f, g, api.Piece{}, api.Piece{From: 20000000000, Base: 1000000000000, Rate: 1000000}),
				line(f, g, api.Piece{Base: -1000000000000, Rate: -1000000}))
			invalid = append(invalid,
				line(f, g, api.Piece{From: 1}), line(f, g, api.Piece{From: -1}), line(f, g, steps(9)...),
				line(f, g, api.Piece{}, api.Piece{}), line(f, g, api.Piece{}, api.Piece{From: 5}, api.Piece{From: 5}),
				line(f, g, api.Piece{}, api.Piece{From: 5}, api.Piece{From: 4}), line(f, g, api.Piece{}, api.Piece{From: -5}),
				line(f, g, api.Piece{}, api.Piece{From: 20000000001}),
				line(f, g, api.Piece{Base: 1000000000001}), line(f, g, api.Piece{Base: -1000000000001}),
				line(f, g, api.Piece{Rate: 1000001}), line(f, g, api.Piece{Rate: -1000001}),
				line(f, g, api.Piece{}, api.Piece{From: 5, Rate: 1000001}))
		}
	}
	return valid, invalid
}

// versions returns valid versions, and invalid ones.
func versions() (valid, invalid []api.Version) {
	good, bad := ways()
	for _, set := range good {
		v := example().Versions[0]
		v.From = 50
		set(&v)
		valid = append(valid, v)
	}
	for _, set := range bad {
		v := example().Versions[0]
		v.From = 50
		set(&v)
		invalid = append(invalid, v)
	}
	return valid, invalid
}

// from returns versions from these days on.
func from(days ...int) []api.Version {
	var l []api.Version
	for _, day := range days {
		l = append(l, api.Version{From: day})
	}
	return l
}

// invalidCodes returns codes that are not valid.
func invalidCodes() []api.Code {
	codes := []api.Code{{}, {Name: "a"}}
	for _, name := range []string{"", "1", "1a", "A", "aB", "a b", "a-", "a_", " a", "a\n", "é", "a\x00", "a{", "a`", "a/", "a:", "{", "`", "abcdefghijklm"} {
		codes = append(codes, api.Code{Name: name, Versions: from(0)})
	}
	for _, l := range [][]api.Version{from(5, 5), from(5, 4), from(0, 9, 8), from(0, 1, 2, 3, 4, 5, 6, 7, 8, 9, 10, 11, 12)} {
		codes = append(codes, api.Code{Name: "a", Versions: l})
	}
	_, invalid := versions()
	for _, v := range invalid {
		codes = append(codes, api.Code{Name: "a", Versions: []api.Version{v}}, api.Code{Name: "a", Versions: append(from(0), v)})
	}
	return codes
}

func TestCheck(t *testing.T) {
	codes := []api.Code{example(), {Name: "a", Versions: from(0, 1, 2, 3, 4, 5, 6, 7, 8, 9, 10, 100000)}}
	for _, name := range []string{"a", "z", "a0", "z9", "abcdefghijkl", "a12345678901"} {
		codes = append(codes, api.Code{Name: name, Versions: from(7)})
	}
	valid, _ := versions()
	for _, v := range valid {
		codes = append(codes, oneVersion(v))
	}
	for _, c := range codes {
		if e := code.Check(c); e != api.OK {
			t.Error(c, e)
		}
	}
	for _, c := range invalidCodes() {
		if e := code.Check(c); e != api.ErrCode {
			t.Error(c, e)
		}
	}
}
