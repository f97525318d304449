package mark_test

import (
	"math"
	"math/rand"
	"testing"

	"moorsom/api"
	"moorsom/mark"
)

// points are freeboards with these lengths.
func points(lengths ...int) []api.Freeboard {
	var l []api.Freeboard
	for _, n := range lengths {
		l = append(l, api.Freeboard{Length: n})
	}
	return l
}

// rising are so many lengths from 1 on.
func rising(many int) []int {
	l := make([]int, many)
	for i := range l {
		l[i] = i + 1
	}
	return l
}

// linesWith are the lines of the example with something else.
func linesWith(change func(l *api.Lines)) api.Lines {
	l := exampleLines()
	change(&l)
	return l
}

// seasonWith are lines with a season that is just valid but for something.
func seasonWith(change func(s *api.Season)) api.Lines {
	s := api.Season{Zone: 1, From: 1, To: 365}
	change(&s)
	return linesWith(func(l *api.Lines) { l.Seasons = append(l.Seasons, s) })
}

func validLines() []api.Lines {
	return []api.Lines{
		exampleLines(),
		{Length: 1, Depth: 1, Table: points(1)},
		{Length: 1, Depth: 1, Table: points(100000), Seasons: []api.Season{}},
		{Length: 100000, Depth: 15000, Table: points(1, 100000)},
		linesWith(func(l *api.Lines) { l.Table = points(rising(20)...) }),
		linesWith(func(l *api.Lines) { l.Table[0].Least, l.Table[1].Least = 0, 5000 }),
		linesWith(func(l *api.Lines) { l.Table[0].Least, l.Table[1].Least = 5000, 0 }),
		linesWith(func(l *api.Lines) {
			l.Seasons = nil
			for range 30 {
				l.Seasons = append(l.Seasons, api.Season{Zone: 20, From: 365, To: 1, Extra: 5000})
			}
		}),
		seasonWith(func(s *api.Season) { s.Zone, s.From, s.To, s.Extra = 20, 365, 365, 5000 }),
		seasonWith(func(s *api.Season) { s.From, s.To = 1, 1 }),
	}
}

func invalidLines() []api.Lines {
	lengths := func(l ...int) api.Lines { return linesWith(func(x *api.Lines) { x.Table = points(l...) }) }
	l := []api.Lines{
		{}, lengths(), lengths(rising(21)...),
		lengths(0), lengths(-1, 5), lengths(100001), lengths(5, 5), lengths(6, 5), lengths(1, 2, 2), lengths(math.MinInt, math.MaxInt),
		linesWith(func(l *api.Lines) { l.Seasons = make([]api.Season, 31) }),
	}
	many := linesWith(func(l *api.Lines) { l.Seasons = nil })
	for range 31 {
		many.Seasons = append(many.Seasons, api.Season{Zone: 1, From: 1, To: 1})
	}
	l = append(l, many)
	for _, n := range []int{0, -1, 100001, math.MinInt, math.MaxInt} {
		l = append(l, linesWith(func(l *api.Lines) { l.Length = n }))
	}
	for _, n := range []int{0, -1, 15001, math.MinInt, math.MaxInt} {
		l = append(l, linesWith(func(l *api.Lines) { l.Depth = n }))
	}
	for _, n := range []int{-1, 5001, math.MinInt, math.MaxInt} {
		l = append(l, linesWith(func(l *api.Lines) { l.Table[1].Least = n }), seasonWith(func(s *api.Season) { s.Extra = n }))
	}
	for _, n := range []int{0, -1, 21, math.MinInt, math.MaxInt} {
		l = append(l, seasonWith(func(s *api.Season) { s.Zone = n }))
	}
	for _, n := range []int{0, -1, 366, math.MinInt, math.MaxInt} {
		l = append(l, seasonWith(func(s *api.Season) { s.From = n }), seasonWith(func(s *api.Season) { s.To = n }))
	}
	return l
}

// TestCheckLines is P6.1: what is valid, up to all limits.
func TestCheckLines(t *testing.T) {
	for _, l := range validLines() {
		if e := mark.CheckLines(l); e != api.OK {
			t.Error(l, e)
		}
	}
	for _, l := range invalidLines() {
		if e := mark.CheckLines(l); e != api.ErrLines {
			t.Error(l, e)
		}
	}
}

// TestFreeboard is P6.1: points, the lines between them, and nothing beyond them.
func TestFreeboard(t *testing.T) {
	table := []api.Freeboard{{Length: 10, Least: 100}, {Length: 13, Least: 101}, {Length: 14, Least: 5000}, {Length: 17, Least: 0}, {Length: 20, Least: 0}}
	for length, want := range map[int]int{10: 100, 11: 101, 12: 101, 13: 101, 14: 5000, 15: 3334, 16: 1667, 17: 0, 18: 0, 20: 0} {
		if n, e := mark.Freeboard(api.Lines{Length: length, Depth: 1, Table: table}); n != want || e != api.OK {
			t.Error(length, n, e)
		}
	}
	for _, length := range []int{1, 9, 21, 100000} {
		if n, e := mark.Freeboard(api.Lines{Length: length, Depth: 1, Table: table}); n != 0 || e != api.ErrNone {
			t.Error(length, n, e)
		}
	}
	single := api.Lines{Length: 7, Depth: 1, Table: []api.Freeboard{{Length: 7, Least: 9}}}
	for length, want := range map[int]api.Errno{6: api.ErrNone, 7: api.OK, 8: api.ErrNone} {
		single.Length = length
		if n, e := mark.Freeboard(single); e != want || (e == api.OK) != (n == 9) {
			t.Error(length, n, e)
		}
	}
	if n, e := mark.Freeboard(exampleLines()); n != 150 || e != api.OK {
		t.Error(n, e)
	}
}

// TestRandomFreeboards is P6.1, by trying all numbers.
func TestRandomFreeboards(t *testing.T) {
	r := rand.New(rand.NewSource(61))
	between, none := 0, 0
	for range 3000 {
		l := randomLines(r, exampleSpace())
		n, e := mark.Freeboard(l)
		want, found := freeboardOf(l)
		if found != (e == api.OK) || !found && e != api.ErrNone || n != want {
			t.Fatal(l, n, e, want)
		}
		if found {
			between++
		} else {
			none++
		}
	}
	if between < 500 || none < 100 {
		t.Error("too few of a kind:", between, none)
	}
}

// TestExtra is P6.1: days of a year, and seasons that go over its end.
func TestExtra(t *testing.T) {
	l := exampleLines()
	l.Seasons = []api.Season{
		{Zone: 1, From: 11, To: 13, Extra: 7}, {Zone: 1, From: 13, To: 13, Extra: 9}, {Zone: 1, From: 12, To: 20, Extra: 5},
		{Zone: 2, From: 300, To: 60, Extra: 60}, {Zone: 3, From: 365, To: 1, Extra: 1}, {Zone: 4, From: 1, To: 365, Extra: 5000},
	}
	for _, c := range []struct{ zone, day, want int }{
		{1, 9, 0}, {1, 10, 7}, {1, 11, 7}, {1, 12, 9}, {1, 13, 5}, {1, 19, 5}, {1, 20, 0}, {1, 375, 7}, {1, 374, 0}, {1, 99657, 9},
		{2, 0, 60}, {2, 59, 60}, {2, 60, 0}, {2, 298, 0}, {2, 299, 60}, {2, 364, 60}, {2, 365, 60}, {2, 425, 0},
		{3, 0, 1}, {3, 1, 0}, {3, 363, 0}, {3, 364, 1}, {3, 365, 1}, {3, 366, 0},
		{4, 0, 5000}, {4, 100000, 5000}, {5, 10, 0}, {20, 0, 0},
	} {
		if n, e := mark.Extra(l, c.zone, c.day); n != c.want || e != api.OK {
			t.Error(c, n, e)
		}
	}
	// No freeboard is needed for it.
	l.Length = 1501
	if n, e := mark.Extra(l, 2, 10); n != 60 || e != api.OK {
		t.Error(n, e)
	}
}

// TestHeightsAndMarks is P6.1: the examples, and waterlines that are just reached.
func TestHeightsAndMarks(t *testing.T) {
	l, s := exampleLines(), exampleSpace()
	for _, c := range []struct{ zone, day, height, mark int }{{1, 10, 1050, 1}, {2, 10, 990, 0}, {2, 100, 1050, 1}} {
		h, e1 := mark.Height(l, c.zone, c.day)
		k, e2 := mark.Mark(s, l, c.zone, c.day)
		if h != c.height || k != c.mark || max(e1, e2) != api.OK {
			t.Error(c, h, k, e1, e2)
		}
	}
	s.Waters = []int{500, 510, 700, 1500} // the first one is the ground
	for depth, want := range map[int]int{150: 0, 159: 0, 160: 1, 349: 1, 350: 2, 1149: 2, 1150: 3, 15000: 3} {
		l.Depth = depth
		if k, e := mark.Mark(s, l, 1, 0); k != want || e != api.OK {
			t.Error(depth, k, e)
		}
	}
	for depth, want := range map[int]int{149: -1, 1: -149} {
		l.Depth = depth
		if h, e := mark.Height(l, 1, 0); h != want || e != api.OK {
			t.Error(depth, h, e)
		}
		if k, e := mark.Mark(s, l, 1, 0); k != 0 || e != api.ErrAbove {
			t.Error(depth, k, e)
		}
	}
}

// TestRandomMarks is P6.1, by going through seasons and waterlines.
func TestRandomMarks(t *testing.T) {
	r := rand.New(rand.NewSource(62))
	var all [3]int
	none := 0
	for range 5000 {
		s := randomSpace(r)
		l := randomLines(r, s)
		zone, day := 1+r.Intn(3), r.Intn(pick(r, 400, 100000))
		k, e := mark.Mark(s, l, zone, day)
		want, wrong := markOf(s, l, zone, day)
		if k != want || e != wrong {
			t.Fatal(s, l, zone, day, k, e, want, wrong)
		}
		extra, e := mark.Extra(l, zone, day)
		if extra != extraOf(l, zone, day) || e != api.OK {
			t.Fatal(l, zone, day, extra, e)
		}
		if wrong == api.OK {
			all[k]++
		} else {
			none++
		}
	}
	if min(all[0], all[1], all[2], none) < 200 {
		t.Error("too few of a kind:", all, none)
	}
}

// TestLowest is P6.1: the mark of a leg is the least one of all its days.
func TestLowest(t *testing.T) {
	s, l := exampleSpace(), exampleLines()
	x := exampleRoute().Legs[0]
	l.Seasons = []api.Season{{Zone: 1, From: 10, To: 10, Extra: 60}, {Zone: 2, From: 12, To: 12, Extra: 60}}
	for _, c := range []struct{ from, to, want int }{
		{10, 10, 1}, {9, 9, 0}, {0, 8, 1}, {0, 9, 0}, {10, 373, 1}, {10, 374, 0}, {10, 375, 0}, {11, 374, 0}, {10, 100000, 0}, {99999, 100000, 1},
	} {
		x.From, x.To = c.from, c.to
		if k, e := mark.Lowest(s, l, x); k != c.want || e != api.OK {
			t.Error(c, k, e)
		}
	}
	l.Seasons[0].Extra = 1051 // the height is below 0 on this day alone
	for to, want := range map[int]api.Errno{373: api.OK, 374: api.ErrAbove} {
		x.From, x.To = 10, to
		if k, e := mark.Lowest(s, l, x); e != want || (e == api.OK) != (k == 1) {
			t.Error(to, k, e)
		}
	}
}

// TestRandomLowest is P6.1, by going through all days.
func TestRandomLowest(t *testing.T) {
	r := rand.New(rand.NewSource(63))
	changes := 0
	for range 6000 {
		s := randomSpace(r)
		l, x := randomLines(r, s), randomLeg(r, r.Intn(400))
		k, e := mark.Lowest(s, l, x)
		want, wrong := lowestOf(s, l, x)
		if k != want || e != wrong {
			t.Fatal(s, l, x, k, e, want, wrong)
		}
		if first, e := markOf(s, l, x.Zone, x.From); e == api.OK && first != want {
			changes++
		}
	}
	if changes < 50 {
		t.Error("too few marks change on the way:", changes)
	}
}

// TestMoreSeasons is P6.6: with more seasons no mark is higher.
func TestMoreSeasons(t *testing.T) {
	r := rand.New(rand.NewSource(64))
	lower := 0
	for range 3000 {
		s := randomSpace(r)
		l, x := randomLines(r, s), randomLeg(r, r.Intn(400))
		more := l
		more.Seasons = append([]api.Season{{Zone: x.Zone, From: 1 + r.Intn(365), To: 1 + r.Intn(365), Extra: r.Intn(2000)}}, l.Seasons...)
		a, e1 := mark.Lowest(s, l, x)
		b, e2 := mark.Lowest(s, more, x)
		if e2 == api.OK && (e1 != api.OK || b > a) {
			t.Fatal(s, l, more, x, a, b)
		}
		if e1 == api.OK && (e2 != api.OK || b < a) {
			lower++
		}
	}
	if lower < 200 {
		t.Error("too few marks are lower:", lower)
	}
}
