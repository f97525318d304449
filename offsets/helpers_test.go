package offsets_test

import (
	"math"
	"math/rand"
	"slices"
	"testing"

	"moorsom/api"
	"moorsom/offsets"
	"moorsom/weigh"
)

// exampleSpace is the space S of the chapter.
func exampleSpace() api.Space {
	return api.Space{Id: 1, Source: 1, Stations: []int{0, 1000}, Waters: []int{0, 1000}, Fair: api.Fair{Along: 100, Up: 200}}
}

// example is the survey V of the chapter.
func example() api.Survey {
	return api.Survey{
		Space: exampleSpace(),
		Readings: []api.Reading{
			{Source: 11, Station: 0, Water: 0, Value: 100, Tolerance: 10, Tape: 1, Day: 5},
			{Source: 12, Station: 0, Water: 1, Value: 200, Tolerance: 10, Tape: 1, Day: 5},
			{Source: 13, Station: 1, Water: 0, Value: 150, Tolerance: 10, Tape: 2, Day: 5},
			{Source: 14, Station: 1, Water: 1, Value: 300, Tolerance: 10, Tape: 2, Day: 5},
		},
		Compares: []api.Compare{{Source: 21, Tape: 1, From: 0, To: 9, Lo: 5, Hi: 15}},
	}
}

// falseExample is V with the reading that the chapter adds to it.
func falseExample() api.Survey {
	v := example()
	v.Readings = append(v.Readings, api.Reading{Source: 15, Station: 0, Water: 0, Value: 300, Tolerance: 10, Tape: 1, Day: 5})
	return v
}

// plainSpace has so many stations and waters, a metre apart.
func plainSpace(stations, waters int, fair api.Fair) api.Space {
	s := api.Space{Id: 5, Source: 7, Fair: fair}
	for i := range stations {
		s.Stations = append(s.Stations, 1000*i)
	}
	for i := range waters {
		s.Waters = append(s.Waters, 1000*i)
	}
	return s
}

// whats are all quantities of a space.
func whats(s api.Space) []api.What {
	var l []api.What
	for k := range s.Waters {
		if k > 0 {
			l = append(l, api.What{Kind: api.WhatLitres, Water: k})
		}
		l = append(l, api.What{Kind: api.WhatPlane, Water: k})
	}
	for i := range s.Stations {
		l = append(l, api.What{Kind: api.WhatSection, Station: i})
		for k := range s.Waters {
			l = append(l, api.What{Kind: api.WhatOffset, Station: i, Water: k})
		}
	}
	return l
}

// at is the offset (i, k).
func at(i, k int) api.What { return api.What{Kind: api.WhatOffset, Station: i, Water: k} }

func floorDiv(a, b int) int {
	n := a / b
	if a%b != 0 && (a < 0) != (b < 0) {
		n--
	}
	return n
}

// daysOf are the tape days of a survey, as the chapter says.
func daysOf(v api.Survey) []api.TapeDay {
	var days []api.TapeDay
	for _, r := range v.Readings {
		if d := (api.TapeDay{Tape: r.Tape, Day: r.Day}); !slices.Contains(days, d) {
			days = append(days, d)
		}
	}
	return days
}

// changeOf is the m of the chapter.
func changeOf(rate, distance int) int {
	return min(int(math.Ceil(float64(rate*distance)/1000)), 20000)
}

// systemOf is the system of a survey, limit by limit as the chapter lists them.
func systemOf(v api.Survey) api.System {
	s, days := v.Space, daysOf(v)
	rows, columns := len(s.Stations), len(s.Waters)
	u := func(i, k int) int { return 1 + i*columns + k }
	sys := api.System{Many: rows*columns + len(days)}
	add := func(a, b, most, by int) {
		sys.Limits = append(sys.Limits, api.Limit{A: a, B: b, Most: most, By: by})
	}
	for i := range rows {
		for k := range columns {
			add(0, u(i, k), 20000, s.Source)
			add(u(i, k), 0, 0, s.Source)
		}
	}
	for i := range rows - 1 {
		for k := range columns {
			m := changeOf(s.Fair.Along, s.Stations[i+1]-s.Stations[i])
			add(u(i, k), u(i+1, k), m, s.Source)
			add(u(i+1, k), u(i, k), m, s.Source)
		}
	}
	for i := range rows {
		for k := range columns - 1 {
			m := changeOf(s.Fair.Up, s.Waters[k+1]-s.Waters[k])
			add(u(i, k), u(i, k+1), m, s.Source)
			add(u(i, k+1), u(i, k), m, s.Source)
		}
	}
	for j := range days {
		add(0, rows*columns+1+j, 1000, s.Source)
		add(rows*columns+1+j, 0, 1000, s.Source)
	}
	for _, c := range v.Compares {
		for j, d := range days {
			if d.Tape == c.Tape && d.Day >= c.From && d.Day <= c.To {
				add(0, rows*columns+1+j, -c.Lo, c.Source)
				add(rows*columns+1+j, 0, c.Hi, c.Source)
			}
		}
	}
	for _, r := range v.Readings {
		f := rows*columns + 1 + slices.Index(days, api.TapeDay{Tape: r.Tape, Day: r.Day})
		add(f, u(r.Station, r.Water), r.Value+r.Tolerance, r.Source)
		add(u(r.Station, r.Water), f, r.Tolerance-r.Value, r.Source)
	}
	return sys
}

// apart tells by how much at most each unknown is greater than each other
// one, and whether the system is sound; by the rule of Floyd and Warshall.
func apart(s api.System) ([][]int, bool) {
	m := make([][]int, s.Many+1)
	for a := range m {
		m[a] = slices.Repeat([]int{api.Free}, s.Many+1)
		m[a][a] = 0
	}
	for _, l := range s.Limits {
		m[l.A][l.B] = min(m[l.A][l.B], l.Most)
	}
	for k := range m {
		for a := range m {
			for b := range m {
				if m[a][k] != api.Free && m[k][b] != api.Free {
					m[a][b] = min(m[a][b], m[a][k]+m[k][b])
				}
			}
		}
	}
	for a := range m {
		if m[a][a] < 0 {
			return nil, false
		}
	}
	return m, true
}

// isTrue reports whether some hull keeps a survey.
func isTrue(v api.Survey) bool {
	_, ok := apart(systemOf(v))
	return ok
}

// A real hull is a table of whole numbers of parts of a millimetre, and how
// many parts a millimetre has.
type realHull struct {
	rows  [][]int
	parts int
}

// whole is a hull of whole numbers.
func whole(h api.Hull) realHull { return realHull{h.Rows, 1} }

// between is the hull that lies by n of d parts of the way from one hull to another one.
func between(a, b api.Hull, n, d int) realHull {
	h := realHull{parts: d}
	for i, row := range a.Rows {
		var l []int
		for k := range row {
			l = append(l, a.Rows[i][k]*(d-n)+b.Rows[i][k]*n)
		}
		h.rows = append(h.rows, l)
	}
	return h
}

// fair reports whether the offsets are those of a hull that changes no more
// than the space says.
func (h realHull) fair(s api.Space) bool {
	near := func(a, b, most int) bool { return max(a-b, b-a) <= most*h.parts }
	if len(h.rows) != len(s.Stations) {
		return false
	}
	for i, row := range h.rows {
		if len(row) != len(s.Waters) {
			return false
		}
		for k, n := range row {
			if n < 0 || n > 20000*h.parts ||
				i > 0 && !near(n, h.rows[i-1][k], changeOf(s.Fair.Along, s.Stations[i]-s.Stations[i-1])) ||
				k > 0 && !near(n, row[k-1], changeOf(s.Fair.Up, s.Waters[k]-s.Waters[k-1])) {
				return false
			}
		}
	}
	return true
}

// errorsOf is the errors that a tape may have on a day, by a survey, if the
// hull is the real one.
func (h realHull) errorsOf(v api.Survey, d api.TapeDay) (lo, hi int) {
	lo, hi = -1000*h.parts, 1000*h.parts
	for _, c := range v.Compares {
		if c.Tape == d.Tape && c.From <= d.Day && d.Day <= c.To {
			lo, hi = max(lo, c.Lo*h.parts), min(hi, c.Hi*h.parts)
		}
	}
	for _, r := range v.Readings {
		if (api.TapeDay{Tape: r.Tape, Day: r.Day}) == d {
			told := r.Value*h.parts - h.rows[r.Station][r.Water]
			lo, hi = max(lo, told-r.Tolerance*h.parts), min(hi, told+r.Tolerance*h.parts)
		}
	}
	return lo, hi
}

// keeps reports whether a real hull keeps a survey.
func (h realHull) keeps(v api.Survey) bool {
	for _, d := range daysOf(v) {
		if lo, hi := h.errorsOf(v, d); lo > hi {
			return false
		}
	}
	return h.fair(v.Space)
}

// tableOf is the weight of each offset in a quantity, and its divisor, as the
// chapter says.
func tableOf(s api.Space, w api.What) ([][]int, int) {
	table := make([][]int, len(s.Stations))
	for i := range table {
		table[i] = make([]int, len(s.Waters))
	}
	divisor := 1
	switch w.Kind {
	case api.WhatLitres:
		grid, _ := weigh.Grid(s.Stations, s.Waters[:w.Water+1])
		for i := range grid {
			copy(table[i], grid[i])
		}
		divisor = 648000000
	case api.WhatPlane:
		weights, _ := weigh.Weights(s.Stations)
		for i := range weights {
			table[i][w.Water] = weights[i]
		}
		divisor = 180000
	case api.WhatSection:
		weights, _ := weigh.Weights(s.Waters)
		copy(table[w.Station], weights)
		divisor = 180000
	case api.WhatOffset:
		table[w.Station][w.Water] = 1
	}
	return table, divisor
}

// sum is the sum of the offsets by the weights of a quantity, in the hull's parts.
func (h realHull) sum(s api.Space, w api.What) int {
	table, _ := tableOf(s, w)
	sum := 0
	for i := range table {
		for k, weight := range table[i] {
			sum += weight * h.rows[i][k]
		}
	}
	return sum
}

// value is a quantity of a real hull.
func (h realHull) value(s api.Space, w api.What) int {
	_, divisor := tableOf(s, w)
	return floorDiv(floorDiv(h.sum(s, w), h.parts), divisor)
}

// shows reports whether a proof is one for a system and weights of the
// unknowns from 1 on, as chapter 2 says it.
func shows(s api.System, w []int, p api.Proof) bool {
	net, sum := make([]int, s.Many+1), 0
	for i, u := range p.Uses {
		if u.Limit < 0 || u.Limit >= len(s.Limits) || i > 0 && p.Uses[i-1].Limit >= u.Limit || u.Times < 1 || u.Times > api.MaxSum {
			return false
		}
		l := s.Limits[u.Limit]
		net[l.B] += u.Times
		net[l.A] -= u.Times
		sum += u.Times * l.Most
	}
	return len(p.Uses) <= api.MaxUses && slices.Equal(net[1:], w[1:]) && sum == p.Bound
}

// endOf is the end of a range that a proof of it has to show.
func endOf(r api.Range, high bool) int {
	if high {
		return r.Hi
	}
	return r.Lo
}

// turnedWeights are the weights of a quantity for the system of a survey, turned if high is false.
func turnedWeights(v api.Survey, w api.What, high bool) ([]int, int) {
	table, divisor := tableOf(v.Space, w)
	l := []int{0}
	for _, n := range slices.Concat(table...) {
		if !high {
			n = -n
		}
		l = append(l, n)
	}
	return append(l, make([]int, len(daysOf(v)))...), divisor
}

// rising is numbers in order, each once.
func rising(l []int) []int {
	l = slices.Clone(l)
	slices.Sort(l)
	return slices.Compact(l)
}

// reported is the sources of a survey's readings and comparisons.
func reported(v api.Survey) []int {
	var l []int
	for _, r := range v.Readings {
		l = append(l, r.Source)
	}
	for _, c := range v.Compares {
		l = append(l, c.Source)
	}
	return rising(l)
}

// less is a survey without what a source reported.
func less(v api.Survey, source int) api.Survey {
	w := api.Survey{Space: v.Space}
	for _, r := range v.Readings {
		if r.Source != source {
			w.Readings = append(w.Readings, r)
		}
	}
	for _, c := range v.Compares {
		if c.Source != source {
			w.Compares = append(w.Compares, c)
		}
	}
	return w
}

// plus is a survey with one more reading.
func plus(v api.Survey, r api.Reading) api.Survey {
	v.Readings = append(slices.Clone(v.Readings), r)
	return v
}

func sameSpace(a, b api.Space) bool {
	return a.Id == b.Id && a.Source == b.Source && a.Fair == b.Fair && slices.Equal(a.Stations, b.Stations) && slices.Equal(a.Waters, b.Waters)
}

func sameSurvey(a, b api.Survey) bool {
	return sameSpace(a.Space, b.Space) && slices.Equal(a.Readings, b.Readings) && slices.Equal(a.Compares, b.Compares)
}

func copyOf(v api.Survey) api.Survey {
	v.Space.Stations, v.Space.Waters = slices.Clone(v.Space.Stations), slices.Clone(v.Space.Waters)
	v.Readings, v.Compares = slices.Clone(v.Readings), slices.Clone(v.Compares)
	return v
}

func sameHull(a, b api.Hull) bool {
	return slices.EqualFunc(a.Rows, b.Rows, func(x, y []int) bool { return slices.Equal(x, y) })
}

// mustHold fails a test if an error is not OK.
func mustHold(t *testing.T, e api.Errno, what ...any) {
	t.Helper()
	if e != api.OK {
		t.Error(append(what, e)...)
	}
}

// A found is a survey that was made of a hull and of the errors of tapes, and both.
type found struct {
	survey api.Survey
	hull   realHull
	errors map[api.TapeDay]int // in the hull's parts
}

// pick is one of a few numbers.
func pick(r *rand.Rand, of ...int) int { return of[r.Intn(len(of))] }

// randomPlaces are positions with intervals of some sizes.
func randomPlaces(r *rand.Rand, many, unit int) []int {
	places := []int{unit * r.Intn(3)}
	for i := range many - 1 {
		places = append(places, places[i]+unit*(1+r.Intn(3))+r.Intn(2)*r.Intn(unit))
	}
	return places
}

func randomSpace(r *rand.Rand) api.Space {
	fair := func() int { return pick(r, 0, 30, 100, 300, 1000, 2345, api.MaxFair) }
	return api.Space{
		Id: 1 + r.Intn(99), Source: 1 + r.Intn(3), Fair: api.Fair{Along: fair(), Up: fair()},
		Stations: randomPlaces(r, 2+r.Intn(3), 1000), Waters: randomPlaces(r, 2+r.Intn(3), 300),
	}
}

// randomHull is a hull that changes no more than a space says.
func randomHull(r *rand.Rand, s api.Space, parts int) realHull {
	h := realHull{parts: parts}
	size := pick(r, 300, 3000, 20000)
	for range s.Stations {
		var row []int
		for range s.Waters {
			row = append(row, r.Intn(size*parts+1))
		}
		h.rows = append(h.rows, row)
	}
	for range len(s.Stations) + len(s.Waters) {
		for i, row := range h.rows {
			for k := range row {
				h.smooth(s, i, k)
			}
		}
	}
	return h
}

// smooth lowers an offset to what its neighbours allow.
func (h realHull) smooth(s api.Space, i, k int) {
	for _, n := range []int{i - 1, i + 1} {
		if n >= 0 && n < len(h.rows) {
			far := max(s.Stations[n]-s.Stations[i], s.Stations[i]-s.Stations[n])
			h.rows[i][k] = min(h.rows[i][k], h.rows[n][k]+changeOf(s.Fair.Along, far)*h.parts)
		}
	}
	for _, n := range []int{k - 1, k + 1} {
		if n >= 0 && n < len(h.rows[i]) {
			far := max(s.Waters[n]-s.Waters[k], s.Waters[k]-s.Waters[n])
			h.rows[i][k] = min(h.rows[i][k], h.rows[i][n]+changeOf(s.Fair.Up, far)*h.parts)
		}
	}
}

// readAs is a value that a tape may tell of an offset, by the way its error
// and the tolerance add up; whether it is one that a reading may have.
func (f found) readAs(r *rand.Rand, x api.Reading) (int, bool) {
	exact := f.hull.rows[x.Station][x.Water] + f.errors[api.TapeDay{Tape: x.Tape, Day: x.Day}]
	lo := -floorDiv(x.Tolerance*f.hull.parts-exact, f.hull.parts)
	hi := floorDiv(exact+x.Tolerance*f.hull.parts, f.hull.parts)
	if lo > hi {
		return 0, false
	}
	n := pick(r, lo, hi, lo+r.Intn(hi-lo+1))
	return n, n >= 0 && n <= api.MaxBreadth-x.Tolerance
}

// randomReading is a reading of any offset; the source of the space is among its sources.
func randomReading(r *rand.Rand, s api.Space, tapes, days int) api.Reading {
	return api.Reading{
		Source: 1 + r.Intn(12), Station: r.Intn(len(s.Stations)), Water: r.Intn(len(s.Waters)),
		Tolerance: pick(r, 0, 1, 5, 40, 300, api.MaxTolerance), Tape: 1 + r.Intn(tapes), Day: r.Intn(days),
	}
}

// randomFound is a true survey, as a random hull and random errors make it.
func randomFound(r *rand.Rand) found {
	f := found{errors: map[api.TapeDay]int{}}
	f.survey.Space = randomSpace(r)
	parts := 1 + r.Intn(3)
	f.hull = randomHull(r, f.survey.Space, parts)
	tapes, days := 1+r.Intn(2), 1+r.Intn(3)
	errors := pick(r, 20, 1000)
	for tape := range tapes {
		for day := range days {
			f.errors[api.TapeDay{Tape: 1 + tape, Day: day}] = r.Intn(2*errors*parts+1) - errors*parts
		}
	}
	for range r.Intn(10) {
		x := randomReading(r, f.survey.Space, tapes, days)
		if n, ok := f.readAs(r, x); ok {
			x.Value = n
			f.survey.Readings = append(f.survey.Readings, x)
		}
	}
	for range r.Intn(4) {
		f.survey.Compares = append(f.survey.Compares, f.compare(r, tapes+1, days))
	}
	return f
}

// compare is a comparison of a tape, with all that its errors are on some days.
func (f found) compare(r *rand.Rand, tapes, days int) api.Compare {
	c := api.Compare{Source: 1 + r.Intn(12), Tape: 1 + r.Intn(tapes), From: r.Intn(days), Lo: 1000, Hi: -1000}
	c.To = c.From + r.Intn(days)
	for day := c.From; day <= c.To; day++ {
		n := f.errors[api.TapeDay{Tape: c.Tape, Day: day}]
		c.Lo = min(c.Lo, floorDiv(n, f.hull.parts))
		c.Hi = max(c.Hi, -floorDiv(-n, f.hull.parts))
	}
	c.Lo = max(c.Lo-r.Intn(20), -1000)
	c.Hi = min(c.Hi+r.Intn(20), 1000)
	return c
}

// trueSurveys calls a function with many small true surveys.
func trueSurveys(t *testing.T, seed int64, do func(r *rand.Rand, f found)) {
	t.Helper()
	r := rand.New(rand.NewSource(seed))
	for range 300 {
		f := randomFound(r)
		if !f.hull.keeps(f.survey) || offsets.Check(f.survey) != api.OK {
			t.Fatal("a survey that is none:", f)
		}
		do(r, f)
	}
}

// anySurveys calls a function with many small surveys, true and false.
func anySurveys(t *testing.T, seed int64, do func(r *rand.Rand, v api.Survey)) {
	t.Helper()
	trueSurveys(t, seed, func(r *rand.Rand, f found) {
		v := f.survey
		for range r.Intn(4) {
			x := randomReading(r, v.Space, 2, 3)
			x.Value = r.Intn(pick(r, 300, 3000, 19000))
			v = plus(v, x)
		}
		do(r, v)
	})
}
