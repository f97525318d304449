package mark_test

import (
	"math/rand"
	"slices"
	"testing"

	"moorsom/api"
	"moorsom/mark"
	"moorsom/offsets"
)

// exampleSpace is the space S of the chapter.
func exampleSpace() api.Space {
	return api.Space{Id: 1, Source: 1, Stations: []int{0, 1000}, Waters: []int{0, 1000}, Fair: api.Fair{Along: 100, Up: 200}}
}

// example is the survey V of the chapter.
func example() api.Survey {
	return api.Survey{
		Space: exampleSpace(),
		Readings: []api.Reading{
			{Source: 11, Station: 0, Water: 0, Value: 100, Tolerance: 10, Tape: 1, Day: 5},
			{Source: 12, Station: 0, Water: 1, Value: 200, Tolerance: 10, Tape: 1, Day: 5},
			{Source: 13, Station: 1, Water: 0, Value: 150, Tolerance: 10, Tape: 2, Day: 5},
			{Source: 14, Station: 1, Water: 1, Value: 300, Tolerance: 10, Tape: 2, Day: 5},
		},
		Compares: []api.Compare{{Source: 21, Tape: 1, From: 0, To: 9, Lo: 5, Hi: 15}},
	}
}

// falseReading is one that no hull of V allows.
func falseReading() api.Reading {
	return api.Reading{Source: 15, Station: 0, Water: 0, Value: 300, Tolerance: 10, Tape: 1, Day: 5}
}

// plus is a survey with one more reading.
func plus(v api.Survey, r api.Reading) api.Survey {
	v.Readings = append(slices.Clone(v.Readings), r)
	return v
}

// exampleLines is L of the chapter.
func exampleLines() api.Lines {
	return api.Lines{
		Length: 1000, Depth: 1200,
		Table:   []api.Freeboard{{Length: 500, Least: 100}, {Length: 1500, Least: 200}},
		Seasons: []api.Season{{Zone: 2, From: 300, To: 60, Extra: 60}},
	}
}

// exampleRoute is R of the chapter.
func exampleRoute() api.Route {
	x := api.Leg{Zone: 1, From: 10, To: 20, Dense: api.Range{Lo: 1000, Hi: 1025}, Burn: api.Range{Lo: 5, Hi: 10}}
	y := x
	y.From, y.To = 20, 30
	return api.Route{Legs: []api.Leg{x, y}}
}

// one is the range of one number.
func one(n int) api.Range { return api.Range{Lo: n, Hi: n} }

// steady is a leg of one day in a zone without seasons, in water of 1000 grams a litre.
func steady(burn api.Range) api.Leg {
	return api.Leg{Zone: 1, Dense: one(1000), Burn: burn}
}

// mustHold ends a test whose own calls fail.
func mustHold(t *testing.T, e api.Errno, about ...any) {
	t.Helper()
	if e != api.OK {
		t.Fatal(e, about)
	}
}

// pick is one of some numbers.
func pick(r *rand.Rand, l ...int) int { return l[r.Intn(len(l))] }

// floorDiv is a divided by b, rounded down, as found from the rest.
func floorDiv(a, b int) int {
	rest := ((a % b) + b) % b
	return (a - rest) / b
}

// sameHull compares hulls.
func sameHull(a, b api.Hull) bool { return slices.EqualFunc(a.Rows, b.Rows, slices.Equal) }

// inSeason goes through the days of a season, one after the other.
func inSeason(s api.Season, day int) bool {
	for n := s.From; ; n = n%365 + 1 {
		if n == day%365+1 {
			return true
		}
		if n == s.To {
			return false
		}
	}
}

// extraOf is the greatest extra of a zone on a day.
func extraOf(l api.Lines, zone, day int) int {
	all := []int{0}
	for _, s := range l.Seasons {
		if s.Zone == zone && inSeason(s, day) {
			all = append(all, s.Extra)
		}
	}
	return slices.Max(all)
}

// freeboardOf tries all freeboards; it is false if there is none.
func freeboardOf(l api.Lines) (int, bool) {
	for i, b := range l.Table {
		if b.Length == l.Length {
			return b.Least, true
		}
		if i == 0 || l.Table[i-1].Length > l.Length || b.Length < l.Length {
			continue
		}
		a := l.Table[i-1]
		for n := range api.MaxExtra + 1 {
			// Both sides of n = Least + rise * part, times the distance of the points.
			if (n-a.Least)*(b.Length-a.Length) >= (b.Least-a.Least)*(l.Length-a.Length) {
				return n, true
			}
		}
	}
	return 0, false
}

// markOf is the mark on a day, or the error that is due.
func markOf(s api.Space, l api.Lines, zone, day int) (int, api.Errno) {
	least, found := freeboardOf(l)
	if !found {
		return 0, api.ErrNone
	}
	height := l.Depth - least - extraOf(l, zone, day)
	for k, water := range slices.Backward(s.Waters) {
		if water-s.Waters[0] <= height {
			return k, api.OK
		}
	}
	return 0, api.ErrAbove
}

// lowestOf goes through all days of a leg.
func lowestOf(s api.Space, l api.Lines, x api.Leg) (int, api.Errno) {
	lowest := len(s.Waters)
	for day := x.From; day <= x.To; day++ {
		k, e := markOf(s, l, x.Zone, day)
		if e != api.OK {
			return 0, e
		}
		lowest = min(lowest, k)
	}
	return lowest, api.OK
}

// litresOf is the litres of a hull up to a waterline.
func litresOf(t *testing.T, s api.Space, h api.Hull, water int) int {
	t.Helper()
	if water == 0 {
		return 0
	}
	n, e := offsets.Value(s, h, api.What{Kind: api.WhatLitres, Water: water})
	mustHold(t, e, s, h, water)
	return n
}

// A ship is a survey with a list of all its hulls (none if it is false), and
// for each of them the litres up to each waterline.
type ship struct {
	survey api.Survey
	hulls  []api.Hull
	litres [][]int
}

// displacementOf is the least and the greatest displacement of all hulls, in
// all densities of a range.
func (s ship) displacementOf(water int, dense api.Range) api.Range {
	var all []int
	for _, litres := range s.litres {
		for d := dense.Lo; d <= dense.Hi; d++ {
			all = append(all, floorDiv(litres[water]*d, 1000))
		}
	}
	return api.Range{Lo: slices.Min(all), Hi: slices.Max(all)}
}

// randomSpace has up to six offsets. Waterlines whose distances are one and
// three times so much give litres below 0 to some hulls.
func randomSpace(r *rand.Rand) api.Space {
	s := api.Space{Id: 5, Source: 7, Fair: api.Fair{Along: pick(r, 10, 200, 100000), Up: pick(r, 10, 100000, 100000)}}
	long, high := pick(r, 1000, 30000, 98000), pick(r, 100, 1000, 3500)
	from := r.Intn(1000)
	s.Stations = []int{from, from + long}
	s.Waters = []int{from, from + high}
	switch r.Intn(5) {
	case 0:
		s.Stations = append(s.Stations, from+long+1000)
	case 1, 2:
		s.Waters = append(s.Waters, from+4*high)
	case 3:
		s.Waters = append(s.Waters, from+high+1+r.Intn(3*high))
	}
	return s
}

// randomValues are half-breadths, of which some may be far greater than others.
func randomValues(r *rand.Rand, s api.Space) [][]int {
	var rows [][]int
	base, wide := pick(r, 1, 100, 4000), pick(r, 1, 3, 30)
	hollow := s.Fair.Up == 100000 && r.Intn(2) == 0
	for range s.Stations {
		var row []int
		for range s.Waters {
			row = append(row, base+r.Intn(wide))
		}
		if hollow {
			row[0], row[1] = 5000, 1
		}
		rows = append(rows, row)
	}
	return rows
}

// randomShip has a survey that tells each offset, by a tape without an error,
// within a tolerance that is so small that all hulls can be listed.
func randomShip(t *testing.T, r *rand.Rand) ship {
	t.Helper()
	v := api.Survey{Space: randomSpace(r), Compares: []api.Compare{{Source: 50, Tape: 1, To: 100}}}
	for i, row := range randomValues(r, v.Space) {
		for k, n := range row {
			v.Readings = append(v.Readings, api.Reading{Source: 10 + len(v.Readings), Station: i, Water: k, Value: n, Tolerance: r.Intn(2), Tape: 1, Day: 1})
		}
	}
	mustHold(t, offsets.Check(v), v)
	return shipOf(t, v)
}

// shipOf lists the hulls of a survey whose readings tell all offsets, in their order.
func shipOf(t *testing.T, v api.Survey) ship {
	t.Helper()
	s := ship{survey: v}
	waters := len(v.Space.Waters)
	flat := make([]int, len(v.Space.Stations)*waters)
	var fill func(i int)
	fill = func(i int) {
		if i == len(flat) {
			s.add(t, api.Hull{Rows: slices.Collect(slices.Chunk(slices.Clone(flat), waters))})
			return
		}
		x := v.Readings[i]
		for n := max(x.Value-x.Tolerance, 0); n <= x.Value+x.Tolerance; n++ {
			flat[i] = n
			fill(i + 1)
		}
	}
	fill(0)
	return s
}

// add lists a hull, if it keeps the survey.
func (s *ship) add(t *testing.T, h api.Hull) {
	t.Helper()
	if offsets.CheckHull(s.survey, h) != api.OK {
		return
	}
	var litres []int
	for water := range s.survey.Space.Waters {
		litres = append(litres, litresOf(t, s.survey.Space, h, water))
	}
	s.hulls = append(s.hulls, h)
	s.litres = append(s.litres, litres)
}

// ships calls a function with ships that have hulls.
func ships(t *testing.T, seed int64, many int, do func(r *rand.Rand, s ship)) {
	t.Helper()
	r := rand.New(rand.NewSource(seed))
	for found := 0; found < many; {
		if s := randomShip(t, r); len(s.hulls) > 0 {
			found++
			do(r, s)
		}
	}
}

// randomLines have marks at all waterlines of a space, and now and then none.
func randomLines(r *rand.Rand, s api.Space) api.Lines {
	l := api.Lines{Length: 1000 + r.Intn(200)}
	length := 900 + r.Intn(150)
	for range 1 + r.Intn(4) {
		l.Table = append(l.Table, api.Freeboard{Length: length, Least: r.Intn(200)})
		length += 1 + r.Intn(150)
	}
	if r.Intn(4) > 0 { // else there may be no freeboard
		l.Table = append(l.Table, api.Freeboard{Length: length + 200, Least: r.Intn(200)})
		l.Length = max(l.Length, l.Table[0].Length)
	}
	l.Depth = min(max(s.Waters[r.Intn(len(s.Waters))]-s.Waters[0]+r.Intn(800)-50, 1), api.MaxDepth)
	for range r.Intn(4) {
		l.Seasons = append(l.Seasons, api.Season{Zone: 1 + r.Intn(3), From: 1 + r.Intn(365), To: 1 + r.Intn(365), Extra: r.Intn(pick(r, 100, 1500))})
	}
	return l
}

// randomLeg begins on a day or a little later.
func randomLeg(r *rand.Rand, day int) api.Leg {
	x := api.Leg{Zone: 1 + r.Intn(3), From: day + r.Intn(40)}
	x.To = x.From + r.Intn(pick(r, 1, 60, 400))
	x.Dense.Lo = 900 + r.Intn(190)
	x.Dense.Hi = x.Dense.Lo + r.Intn(10)
	x.Burn.Lo = r.Intn(pick(r, 1, 20, 3000))
	x.Burn.Hi = x.Burn.Lo + r.Intn(pick(r, 1, 20, 3000))
	return x
}

func randomRoute(r *rand.Rand) api.Route {
	var route api.Route
	day := r.Intn(400)
	for range 1 + r.Intn(3) {
		x := randomLeg(r, day)
		day = x.To
		route.Legs = append(route.Legs, x)
	}
	return route
}

// randomMass is about what some hull displaces at some waterline, or less.
func randomMass(r *rand.Rand, s ship) api.Range {
	litres := s.litres[r.Intn(len(s.litres))]
	n := litres[r.Intn(len(litres))] * (900 + r.Intn(200)) / 1000
	lo := max(n+r.Intn(20)-10, 0)
	return api.Range{Lo: lo, Hi: lo + r.Intn(pick(r, 1, 10, 5000))}
}

// A departure is a ship with her lines, her route and her mass, and the marks of all legs.
type departure struct {
	ship
	lines api.Lines
	route api.Route
	mass  api.Range
	marks []int
}

// departures calls a function with departures all of whose legs have marks.
func departures(t *testing.T, seed int64, many int, do func(r *rand.Rand, d departure)) {
	t.Helper()
	ships(t, seed, many, func(r *rand.Rand, s ship) {
		for {
			d := departure{s, randomLines(r, s.survey.Space), randomRoute(r), randomMass(r, s), nil}
			mustHold(t, max(mark.CheckLines(d.lines), mark.CheckRoute(d.route)), d.lines, d.route)
			if d.findMarks() {
				do(r, d)
				return
			}
		}
	})
}

// findMarks reports whether all legs have marks.
func (d *departure) findMarks() bool {
	for _, x := range d.route.Legs {
		k, e := lowestOf(d.survey.Space, d.lines, x)
		if e != api.OK {
			return false
		}
		d.marks = append(d.marks, k)
	}
	return true
}

// massesOf is the masses at the beginning of each leg, and at the end.
func massesOf(r api.Route, mass api.Range) []api.Range {
	l := []api.Range{mass}
	for i, x := range r.Legs {
		l = append(l, api.Range{Lo: max(l[i].Lo-x.Burn.Hi, 0), Hi: max(l[i].Hi-x.Burn.Lo, 0)})
	}
	return l
}

// answersOf asks all hulls, in all densities, with the least and the greatest mass.
func (d departure) answersOf(mass api.Range) []int {
	var answers []int
	masses := massesOf(d.route, mass)
	for i, x := range d.route.Legs {
		kept, sunk := 0, 0
		for _, litres := range d.litres {
			for dense := x.Dense.Lo; dense <= x.Dense.Hi; dense++ {
				for _, n := range []int{masses[i].Lo, masses[i].Hi} {
					if n <= floorDiv(litres[d.marks[i]]*dense, 1000) {
						kept++
					} else {
						sunk++
					}
				}
			}
		}
		switch {
		case sunk == 0:
			answers = append(answers, api.Yes)
		case kept == 0:
			answers = append(answers, api.No)
		default:
			answers = append(answers, api.Maybe)
		}
	}
	return answers
}
