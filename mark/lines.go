package mark

import (
	"cmp"
	"iter"
	"sort"

	"moorsom/api"
	"moorsom/offsets"
)

// Freeboard returns the least freeboard of a ship.
func Freeboard(l api.Lines) (int, api.Errno) {
	if e := CheckLines(l); e != api.OK {
		return 0, e
	}
	return freeboard(l)
}

// freeboard is that of valid lines: between two points of the table it lies
// on their straight line.
func freeboard(l api.Lines) (int, api.Errno) {
	i := sort.Search(len(l.Table), func(i int) bool { return l.Table[i].Length >= l.Length })
	switch {
	case i == len(l.Table):
		return 0, api.ErrNone
	case l.Table[i].Length == l.Length:
		return l.Table[i].Least, api.OK
	case i == 0:
		return 0, api.ErrNone
	}
	a, b := l.Table[i-1], l.Table[i]
	sum := a.Least*(b.Length-l.Length) + b.Least*(l.Length-a.Length)
	return ceil(sum, b.Length-a.Length), api.OK
}

// floor is a divided by b, rounded down; b is above 0.
func floor(a, b int) int {
	whole := a / b
	if a%b < 0 {
		whole--
	}
	return whole
}

// ceil is a divided by b, rounded up; b is above 0.
func ceil(a, b int) int { return -floor(-a, b) }

// isIn reports whether a day is in a season.
func isIn(s api.Season, day int) bool {
	ofYear := 1 + day%yearDays
	if s.From > s.To { // over the end of the year
		return ofYear >= s.From || ofYear <= s.To
	}
	return inside(ofYear, s.From, s.To)
}

// extraOn is the greatest extra of valid lines in a zone on a day.
func extraOn(l api.Lines, zone, day int) int {
	most := 0
	for _, s := range l.Seasons {
		if s.Zone == zone && isIn(s, day) {
			most = max(most, s.Extra)
		}
	}
	return most
}

// Extra returns how much more freeboard is needed in a zone on a day.
func Extra(l api.Lines, zone, day int) (int, api.Errno) {
	if e := cmp.Or(CheckLines(l), checkWhen(zone, day)); e != api.OK {
		return 0, e
	}
	return extraOn(l, zone, day), api.OK
}

// heightWith is the height of the mark of valid lines, with so much more freeboard.
func heightWith(l api.Lines, extra int) (int, api.Errno) {
	least, e := freeboard(l)
	if e != api.OK {
		return 0, e
	}
	return l.Depth - least - extra, api.OK
}

// Height returns the height of the mark in a zone on a day.
func Height(l api.Lines, zone, day int) (int, api.Errno) {
	if e := cmp.Or(CheckLines(l), checkWhen(zone, day)); e != api.OK {
		return 0, e
	}
	return heightWith(l, extraOn(l, zone, day))
}

// markWith is the waterline of the mark of a valid space and valid lines, with
// so much more freeboard.
func markWith(s api.Space, l api.Lines, extra int) (int, api.Errno) {
	height, e := heightWith(l, extra)
	if e != api.OK {
		return 0, e
	}
	above := sort.Search(len(s.Waters), func(i int) bool { return s.Waters[i]-s.Waters[0] > height })
	if above == 0 {
		return 0, api.ErrAbove
	}
	return above - 1, api.OK
}

// Mark returns the waterline of the mark in a zone on a day.
func Mark(s api.Space, l api.Lines, zone, day int) (int, api.Errno) {
	if e := cmp.Or(offsets.CheckSpace(s), CheckLines(l), checkWhen(zone, day)); e != api.OK {
		return 0, e
	}
	return markWith(s, l, extraOn(l, zone, day))
}

// daysOf yields the days of a valid leg. Behind those of a year it stops: the
// seasons come again.
func daysOf(x api.Leg) iter.Seq[int] {
	return func(yield func(int) bool) {
		for day := x.From; day <= x.To && day < x.From+yearDays; day++ {
			if !yield(day) {
				return
			}
		}
	}
}

// lowest is the mark of a valid leg: the one of the days on which most
// freeboard is needed.
func lowest(s api.Space, l api.Lines, x api.Leg) (int, api.Errno) {
	most := 0
	for day := range daysOf(x) {
		most = max(most, extraOn(l, x.Zone, day))
	}
	return markWith(s, l, most)
}

// Lowest returns the lowest waterline of the mark in a leg.
func Lowest(s api.Space, l api.Lines, x api.Leg) (int, api.Errno) {
	if e := cmp.Or(offsets.CheckSpace(s), CheckLines(l), checkLeg(x)); e != api.OK {
		return 0, e
	}
	return lowest(s, l, x)
}
