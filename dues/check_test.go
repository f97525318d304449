package dues_test

import (
	"math"
	"slices"
	"testing"

	"moorsom/api"
	"moorsom/dues"
)

// far are numbers that are valid nowhere.
func far(more ...int) []int { return append(more, -1, math.MaxInt, math.MinInt) }

// A part is a number of a passage, with what it may and may not be.
type part struct {
	name    string
	set     func(p *api.Passage, n int)
	in, out []int
}

func parts() []part {
	return []part{
		{"Id", func(p *api.Passage, n int) { p.Id = n }, []int{1, 99999}, far(0, 100000)},
		{"Ship", func(p *api.Passage, n int) { p.Ship = n }, []int{1, 999}, far(0, 1000)},
		{"Day", func(p *api.Passage, n int) { p.Day = n }, []int{0, 100000}, far(100001)},
		{"Known", func(p *api.Passage, n int) { p.Known = n }, []int{0, 100000}, far(100001)},
		{"Rate", func(p *api.Passage, n int) { p.Rate = n }, []int{0, 10000}, far(10001)},
	}
}

func TestCheckPassage(t *testing.T) {
	for _, part := range parts() {
		for _, n := range part.in {
			p := example().Passages[0]
			part.set(&p, n)
			mustHold(t, dues.CheckPassage(p), part.name, n)
			f := example()
			f.Passages = []api.Passage{p}
			mustHold(t, dues.Check(f), part.name, n)
			f.Passages = nil
			if more, e := dues.Add(f, p); e != api.OK || !slices.Equal(more.Passages, []api.Passage{p}) {
				t.Error(part.name, n, more, e)
			}
		}
		for _, n := range part.out {
			p, f := example().Passages[0], example()
			part.set(&p, n)
			if e := dues.CheckPassage(p); e != api.ErrPassage {
				t.Error(part.name, n, e)
			}
			if more, e := dues.Add(api.Files{}, p); e != api.ErrPassage || !same(more, api.Files{}) {
				t.Error(part.name, n, more, e)
			}
			part.set(&f.Passages[1], n)
			if e := dues.Check(f); e != api.ErrFiles {
				t.Error(part.name, n, e)
			}
		}
	}
	if e := dues.CheckPassage(api.Passage{}); e != api.ErrPassage {
		t.Error(e)
	}
}

// manyEvents are so many events of the office 4.
func manyEvents(n int) []api.Event {
	var l []api.Event
	for i := range n {
		l = append(l, put(flag(20, 1), place(4, i)))
	}
	return l
}

// manyLaws are those of the flags from 1 on.
func manyLaws(n int) []api.Law {
	var l []api.Law
	for i := range n {
		l = append(l, simple(1+i))
	}
	return l
}

// manyPassages are of the ship 9, with the Ids from 1 on.
func manyPassages(n int) []api.Passage {
	var l []api.Passage
	for i := range n {
		l = append(l, api.Passage{Id: 1 + i, Ship: 9})
	}
	return l
}

// invalidFiles are files of which one thing is not valid.
func invalidFiles() map[string]api.Files {
	spoiled := map[string]func(f *api.Files){
		"too many events":    func(f *api.Files) { f.Events = manyEvents(81) },
		"an invalid event":   func(f *api.Files) { f.Events[0].Known = -1 },
		"an event twice":     func(f *api.Files) { f.Events = append(f.Events, f.Events[6]) },
		"too many laws":      func(f *api.Files) { f.Laws = manyLaws(5) },
		"no flag":            func(f *api.Files) { f.Laws[0].Flag = 0 },
		"a flag too great":   func(f *api.Files) { f.Laws[0].Flag = 10 },
		"a far flag":         func(f *api.Files) { f.Laws[0].Flag = math.MinInt },
		"no code":            func(f *api.Files) { f.Laws[0].Code = api.Code{} },
		"an invalid code":    func(f *api.Files) { f.Laws[0].Code.Versions[0].Puts[0].Group = 6 },
		"a second code":      func(f *api.Files) { f.Laws = append(f.Laws, api.Law{Flag: 3}) },
		"a flag twice":       func(f *api.Files) { f.Laws = append(f.Laws, simple(2)) },
		"flags that fall":    func(f *api.Files) { f.Laws = append(f.Laws, simple(1)) },
		"too many passages":  func(f *api.Files) { f.Passages = manyPassages(13) },
		"an invalid passage": func(f *api.Files) { f.Passages[1].Rate = 10001 },
		"an Id twice":        func(f *api.Files) { f.Passages[1].Id = 1 },
		"Ids that fall":      func(f *api.Files) { f.Passages[0].Id = 3 },
	}
	files := map[string]api.Files{}
	for name, spoil := range spoiled {
		f := example()
		spoil(&f)
		files[name] = f
	}
	return files
}

func TestCheck(t *testing.T) {
	mustHold(t, dues.Check(api.Files{}))
	mustHold(t, dues.Check(api.Files{Events: []api.Event{}, Laws: []api.Law{}, Passages: []api.Passage{}}))
	mustHold(t, dues.Check(example()))
	mustHold(t, dues.Check(api.Files{Events: manyEvents(80), Laws: manyLaws(4), Passages: manyPassages(12)}))
	mustHold(t, dues.Check(api.Files{Laws: []api.Law{simple(1), simple(9)}}))
	for name, f := range invalidFiles() {
		if e := dues.Check(f); e != api.ErrFiles {
			t.Error(name, e)
		}
	}
}

func TestAdd(t *testing.T) {
	p := api.Passage{Id: 5, Ship: 8, Day: 1, Known: 2, Rate: 3}
	f := example()
	f.Passages = manyPassages(3)
	f.Passages[2].Id = 9
	for id, at := range map[int]int{3: 2, 8: 2, 10: 3, 99999: 3} {
		p.Id = id
		more, e := dues.Add(f, p)
		want := slices.Insert(slices.Clone(f.Passages), at, p)
		if e != api.OK || !slices.Equal(more.Passages, want) || !same(more.Events, f.Events) || !same(more.Laws, f.Laws) {
			t.Error(id, more, e)
		}
	}
	for _, id := range []int{1, 2, 9} {
		p.Id = id
		if more, e := dues.Add(f, p); e != api.ErrPassage || !same(more, api.Files{}) {
			t.Error(id, more, e)
		}
	}
	// Of the same passage there are no two either.
	if _, e := dues.Add(f, f.Passages[0]); e != api.ErrPassage {
		t.Error(e)
	}
	p.Id = 50
	for many, want := range map[int]api.Errno{11: api.OK, 12: api.ErrLong} {
		f.Passages = manyPassages(many)
		if more, e := dues.Add(f, p); e != want || e != api.OK && !same(more, api.Files{}) {
			t.Error(many, more, e)
		}
	}
}

// TestAddedOneByOne: in whatever order passages come, the files are the same.
func TestAddedOneByOne(t *testing.T) {
	lists(t, 88, 60, func(m maker, f api.Files) {
		grown := f
		grown.Passages = nil
		for _, i := range m.Perm(len(f.Passages)) {
			more, e := dues.Add(grown, f.Passages[i])
			mustHold(t, e, f)
			grown = more
		}
		if !same(grown, f) {
			t.Fatal(f, grown)
		}
	})
}
