package mark_test

import (
	"math"
	"math/rand"
	"slices"
	"testing"

	"moorsom/api"
	"moorsom/mark"
	"moorsom/offsets"
)

// A question has all that functions are asked.
type question struct {
	v           api.Survey
	l           api.Lines
	r           api.Route
	x           api.Leg
	zone, day   int
	water, kilo int
	mass, dense api.Range
	light       api.Range // a mass that floats
	w           api.Witness
	p           api.Proof
}

// A fault is what is wrong with a question, by the error that is told.
type fault struct {
	e     api.Errno
	spoil func(q *question)
}

// What may be wrong. Those of a kind stand for one argument.
func badSpace() fault {
	return fault{api.ErrSpace, func(q *question) { q.v.Space.Id = 0 }}
}
func badReading() fault {
	return fault{api.ErrReading, func(q *question) { q.v = plus(q.v, api.Reading{}) }}
}
func badCompare() fault {
	return fault{api.ErrCompare, func(q *question) { q.v.Compares = []api.Compare{{}} }}
}
func badLines() fault { return fault{api.ErrLines, func(q *question) { q.l.Table = nil }} }
func badRoute() fault {
	return fault{api.ErrRoute, func(q *question) { q.r.Legs[1].Dense.Lo, q.x.Burn.Lo = 899, -1 }}
}
func badZone() fault  { return fault{api.ErrZone, func(q *question) { q.zone = 21 }} }
func lowZone() fault  { return fault{api.ErrZone, func(q *question) { q.zone = 0 }} }
func badDay() fault   { return fault{api.ErrDay, func(q *question) { q.day = 100001 }} }
func lowDay() fault   { return fault{api.ErrDay, func(q *question) { q.day = -1 }} }
func badWater() fault { return fault{api.ErrWater, func(q *question) { q.water = 2 }} }
func lowWater() fault { return fault{api.ErrWater, func(q *question) { q.water = -1 }} }
func badMass() fault {
	return fault{api.ErrMass, func(q *question) { q.mass.Hi, q.light.Hi, q.kilo = 1000000000001, 1000000000001, 1000000000001 }}
}
func lowMass() fault {
	return fault{api.ErrMass, func(q *question) { q.mass.Lo, q.light.Lo, q.kilo = -1, -1, -1 }}
}
func badDense() fault { return fault{api.ErrDense, func(q *question) { q.dense.Hi = 1101 }} }

// tooLong: no freeboard is known of such a length.
func tooLong() fault { return fault{api.ErrNone, func(q *question) { q.l.Length = 1501 }} }

// tooDeep: on the days of the second leg, and on those that are asked of,
// the mark is below the keel.
func tooDeep() fault {
	return fault{api.ErrAbove, func(q *question) {
		q.l.Seasons = append(slices.Clone(q.l.Seasons), api.Season{Zone: 1, From: 25, To: 26, Extra: 5000})
	}}
}

// noWater: the mark is the first waterline.
func noWater() fault { return fault{api.ErrWater, func(q *question) { q.l.Depth = 1149 }} }

// noHull: the survey is false.
func noHull() fault {
	return fault{api.ErrFalse, func(q *question) { q.v = plus(q.v, falseReading()) }}
}

// tooHeavy: no waterline floats such a mass.
func tooHeavy() fault { return fault{api.ErrNone, func(q *question) { q.light.Hi = 1000000 }} }

// tooLight: there is no leg whose answer is not Yes.
func tooLight() fault { return fault{api.ErrNone, func(q *question) { q.mass = api.Range{} }} }

// hollowed: the mark bears less than nothing.
func hollowed() fault { return fault{api.ErrNone, func(q *question) { q.v = hollow() }} }
func badWitness() fault {
	return fault{api.ErrWitness, func(q *question) { q.w.Mass = 190 }}
}
func badProof() fault { return fault{api.ErrProof, func(q *question) { q.p.Bound-- }} }
func tooMuch() fault  { return fault{api.ErrShown, func(q *question) { q.kilo = 191 }} }

// A call is a function with what may be wrong, in the order of the errors.
type call struct {
	name   string
	faults []fault
	// ask returns the error, and whether all other results are zero values.
	ask func(q question) (api.Errno, bool)
}

// ofSurvey has the faults of a survey, and others behind them.
func ofSurvey(more ...fault) []fault {
	return append([]fault{badSpace(), badReading(), badCompare()}, more...)
}

func calls() []call {
	return slices.Concat(lineCalls(), tableCalls(), judgeCalls(), proofCalls())
}

func number(n int, e api.Errno) (api.Errno, bool) { return e, n == 0 }

func lineCalls() []call {
	onDay := func(more ...fault) []fault {
		return append([]fault{badLines(), badZone(), lowZone(), badDay(), lowDay()}, more...)
	}
	return []call{
		{"CheckLines", []fault{badLines()}, func(q question) (api.Errno, bool) { return mark.CheckLines(q.l), true }},
		{"CheckRoute", []fault{badRoute()}, func(q question) (api.Errno, bool) { return mark.CheckRoute(q.r), true }},
		{"Freeboard", []fault{badLines(), tooLong()}, func(q question) (api.Errno, bool) { return number(mark.Freeboard(q.l)) }},
		{"Extra", onDay(), func(q question) (api.Errno, bool) { return number(mark.Extra(q.l, q.zone, q.day)) }},
		{"Height", onDay(tooLong()), func(q question) (api.Errno, bool) { return number(mark.Height(q.l, q.zone, q.day)) }},
		{"Mark", append([]fault{badSpace()}, onDay(tooLong(), tooDeep())...), func(q question) (api.Errno, bool) {
			return number(mark.Mark(q.v.Space, q.l, q.zone, q.day))
		}},
		{"Lowest", []fault{badSpace(), badLines(), badRoute(), tooLong(), tooDeep()}, func(q question) (api.Errno, bool) {
			return number(mark.Lowest(q.v.Space, q.l, q.x))
		}},
	}
}

func tableCalls() []call {
	return []call{
		{"Table", ofSurvey(noHull()), func(q question) (api.Errno, bool) {
			l, e := mark.Table(q.v)
			return e, len(l) == 0
		}},
		{"Displacement", ofSurvey(badWater(), lowWater(), badDense(), noHull()), func(q question) (api.Errno, bool) {
			d, e := mark.Displacement(q.v, q.water, q.dense)
			return e, d == api.Range{}
		}},
		{"Draught", ofSurvey(badMass(), lowMass(), badDense(), noHull(), tooHeavy()), func(q question) (api.Errno, bool) {
			d, e := mark.Draught(q.v, q.light, q.dense)
			return e, d == api.Range{}
		}},
		{"Masses", []fault{badRoute(), badMass(), lowMass()}, func(q question) (api.Errno, bool) {
			l, e := mark.Masses(q.r, q.mass)
			return e, len(l) == 0
		}},
	}
}

func judgeCalls() []call {
	sail := func(more ...fault) []fault {
		l := []fault{badLines(), badRoute(), badMass(), lowMass(), tooLong(), tooDeep()}
		return ofSurvey(append(l, more...)...)
	}
	return []call{
		{"Answers", sail(noHull()), func(q question) (api.Errno, bool) {
			l, e := mark.Answers(q.v, q.l, q.r, q.mass)
			return e, len(l) == 0
		}},
		{"Judge", sail(noHull()), func(q question) (api.Errno, bool) { return number(mark.Judge(q.v, q.l, q.r, q.mass)) }},
		{"Sure", ofSurvey(badLines(), badRoute(), tooLong(), tooDeep(), noHull()), func(q question) (api.Errno, bool) {
			return number(mark.Sure(q.v, q.l, q.r))
		}},
		{"Sure", ofSurvey(badLines(), badRoute(), tooLong(), tooDeep(), hollowed()), func(q question) (api.Errno, bool) {
			return number(mark.Sure(q.v, q.l, q.r))
		}},
		{"Sinks", sail(noHull(), tooLight()), func(q question) (api.Errno, bool) {
			w, e := mark.Sinks(q.v, q.l, q.r, q.mass)
			return e, noWitness(w)
		}},
		{"CheckSinks", sail(badWitness()), func(q question) (api.Errno, bool) {
			return mark.CheckSinks(q.v, q.l, q.r, q.mass, q.w), true
		}},
	}
}

func proofCalls() []call {
	return []call{
		{"Prove", ofSurvey(badLines(), badRoute(), tooLong(), tooDeep(), noWater(), noHull()), func(q question) (api.Errno, bool) {
			p, e := mark.Prove(q.v, q.l, q.x)
			return e, p.Bound == 0 && len(p.Uses) == 0
		}},
		{"CheckProof", ofSurvey(badLines(), badRoute(), badMass(), lowMass(), tooLong(), tooDeep(), noWater(), badProof(), tooMuch()),
			func(q question) (api.Errno, bool) { return mark.CheckProof(q.v, q.l, q.x, q.kilo, q.p), true }},
	}
}

// exampleQuestion is one of which all functions tell something.
func exampleQuestion() question {
	q := question{v: example(), l: exampleLines(), r: exampleRoute(), x: exampleRoute().Legs[1], zone: 1, day: 25, water: 1, kilo: 190}
	q.mass, q.light, q.dense, q.w = api.Range{Lo: 180, Hi: 200}, api.Range{Lo: 100, Hi: 190}, api.Range{Lo: 1000, Hi: 1025}, sunkExample()
	q.p, _ = mark.Prove(q.v, q.l, q.x)
	return q
}

// TestOrderOfErrors is R1 and R2: whichever faults there are together, the
// error is that of the first one, and nothing is beside it.
func TestOrderOfErrors(t *testing.T) {
	for _, c := range calls() {
		if e, _ := c.ask(exampleQuestion()); e != api.OK {
			t.Error(c.name, e)
		}
		for set := 1; set < 1<<len(c.faults); set++ {
			q, want := exampleQuestion(), api.OK
			for i, f := range slices.Backward(c.faults) {
				if set&(1<<i) != 0 {
					f.spoil(&q)
					want = f.e
				}
			}
			if e, zero := c.ask(q); e != want || !zero {
				t.Error(c.name, set, e, want, zero)
			}
		}
	}
}

// refused asks all functions whose faults name an error a question that has it.
func refused(t *testing.T, want api.Errno, q question) {
	t.Helper()
	for _, c := range calls() {
		named := slices.ContainsFunc(c.faults, func(f fault) bool { return f.e == want })
		if e, zero := c.ask(q); named && (e != want || !zero) {
			t.Error(c.name, e, want, zero)
		}
	}
}

// TestInvalidArguments: all functions refuse all that is not valid.
func TestInvalidArguments(t *testing.T) {
	with := func(change func(q *question)) question {
		q := exampleQuestion()
		change(&q)
		return q
	}
	for _, l := range invalidLines() {
		refused(t, api.ErrLines, with(func(q *question) { q.l = l }))
	}
	for _, x := range invalidLegs() {
		refused(t, api.ErrRoute, with(func(q *question) { q.r.Legs[1], q.x = x, x }))
	}
	for _, r := range invalidRoutes() {
		q := with(func(q *question) { q.r, q.x.Zone = r, 0 })
		refused(t, api.ErrRoute, q)
	}
	for _, n := range []int{0, -1, 21, math.MinInt, math.MaxInt} {
		refused(t, api.ErrZone, with(func(q *question) { q.zone = n }))
	}
	for _, n := range []int{-1, 100001, math.MinInt, math.MaxInt} {
		refused(t, api.ErrDay, with(func(q *question) { q.day = n }))
	}
	for _, space := range []api.Space{{}, {Id: 1, Source: 1, Stations: []int{0, 1}, Waters: []int{0}}, {Id: 1, Source: 1, Stations: []int{0, 1}}} {
		refused(t, api.ErrSpace, with(func(q *question) { q.v.Space = space }))
	}
}

// TestInvalidRanges: masses, densities and waterlines that are none.
func TestInvalidRanges(t *testing.T) {
	v, l, r := example(), exampleLines(), exampleRoute()
	for _, m := range wrongMasses() {
		_, e1 := mark.Masses(r, m)
		_, e2 := mark.Judge(v, l, r, m)
		_, e3 := mark.Sinks(v, l, r, m)
		_, e4 := mark.Draught(v, m, one(1000))
		e5 := mark.CheckSinks(v, l, r, m, sunkExample())
		if l := []api.Errno{e1, e2, e3, e4, e5}; slices.ContainsFunc(l, func(e api.Errno) bool { return e != api.ErrMass }) {
			t.Error(m, l)
		}
	}
	for _, d := range wrongDenses() {
		_, e1 := mark.Displacement(v, 0, d)
		_, e2 := mark.Draught(v, one(0), d)
		if e1 != api.ErrDense || e2 != api.ErrDense {
			t.Error(d, e1, e2)
		}
	}
	for _, n := range []int{-1, 2, 7, math.MinInt, math.MaxInt} {
		if d, e := mark.Displacement(v, n, one(1000)); d != (api.Range{}) || e != api.ErrWater {
			t.Error(n, d, e)
		}
	}
}

// TestErrorsOfSurveys: the error of a survey is that of its Check.
func TestErrorsOfSurveys(t *testing.T) {
	long := example()
	long.Readings = make([]api.Reading, 61)
	many := example()
	many.Readings = slices.Repeat(many.Readings[:1], 60)
	for i := range many.Readings {
		many.Readings[i].Tape = 1 + i
	}
	many.Space.Stations, many.Space.Waters = []int{0, 1, 2, 3, 4, 5, 6, 7, 8}, []int{0, 1, 2, 3, 4, 5, 6}
	for _, v := range []api.Survey{long, many} {
		if e := offsets.Check(v); e != api.ErrLong {
			t.Fatal(e)
		}
		for _, c := range calls() {
			asked := slices.ContainsFunc(c.faults, func(f fault) bool { return f.e == api.ErrReading })
			q := exampleQuestion()
			q.v = v
			if e, zero := c.ask(q); asked && (e != api.ErrLong || !zero) {
				t.Error(c.name, e)
			}
		}
	}
}

// spoil writes into all the memory of a list, also behind its end.
func spoil[T any](l []T, with T) {
	l = l[:cap(l)]
	for i := range l {
		l[i] = with
	}
}

// roomy is an equal list that has room behind its end.
func roomy[T any](l []T) []T { return slices.Grow(slices.Clone(l), 9) }

// untouched reports whether a list is as it was, and has nothing behind its end.
func untouched[T comparable](l, was []T) bool {
	var zero T
	behind := l[len(l):cap(l)]
	return slices.Equal(l, was) && !slices.ContainsFunc(behind, func(x T) bool { return x != zero })
}

// TestArgumentsAreNotChanged is R4: neither an argument nor what stands behind its end.
func TestArgumentsAreNotChanged(t *testing.T) {
	for _, change := range []func(q *question){func(q *question) {}, noHull().spoil, tooLight().spoil, tooDeep().spoil} {
		q := exampleQuestion()
		change(&q)
		was := q
		q.v.Space.Stations, q.v.Space.Waters = roomy(q.v.Space.Stations), roomy(q.v.Space.Waters)
		q.v.Readings, q.v.Compares = roomy(q.v.Readings), roomy(q.v.Compares)
		q.l.Table, q.l.Seasons, q.r.Legs, q.p.Uses = roomy(q.l.Table), roomy(q.l.Seasons), roomy(q.r.Legs), roomy(q.p.Uses)
		for _, c := range calls() {
			c.ask(q)
		}
		if !untouched(q.v.Space.Stations, was.v.Space.Stations) || !untouched(q.v.Space.Waters, was.v.Space.Waters) ||
			!untouched(q.v.Readings, was.v.Readings) || !untouched(q.v.Compares, was.v.Compares) ||
			!untouched(q.l.Table, was.l.Table) || !untouched(q.l.Seasons, was.l.Seasons) ||
			!untouched(q.r.Legs, was.r.Legs) || !untouched(q.p.Uses, was.p.Uses) || !sameHull(q.w.Hull, sunkExample().Hull) {
			t.Error(q)
		}
	}
}

// TestResultsAreNew is R4 too: whoever writes into a result changes nothing else.
func TestResultsAreNew(t *testing.T) {
	q := exampleQuestion()
	for range 2 {
		table, e1 := mark.Table(q.v)
		masses, e2 := mark.Masses(q.r, q.mass)
		answers, e3 := mark.Answers(q.v, q.l, q.r, q.mass)
		w, e4 := mark.Sinks(q.v, q.l, q.r, q.mass)
		p, e5 := mark.Prove(q.v, q.l, q.x)
		mustHold(t, max(e1, e2, e3, e4, e5))
		if !slices.Equal(table, []api.Range{{}, {Lo: 190, Hi: 395}}) || !slices.Equal(masses, massesOf(exampleRoute(), q.mass)) ||
			!slices.Equal(answers, []int{api.Maybe, api.Maybe}) {
			t.Error(table, masses, answers)
		}
		mustHold(t, mark.CheckSinks(q.v, q.l, q.r, q.mass, w))
		mustHold(t, mark.CheckProof(q.v, q.l, q.x, q.kilo, p))
		second := slices.Clone(w.Hull.Rows[1])
		spoil(w.Hull.Rows[0], -1)
		if !slices.Equal(w.Hull.Rows[1], second) {
			t.Error("rows of Sinks", w)
		}
		spoil(w.Hull.Rows[1], -1)
		spoil(table, one(-1))
		spoil(masses, one(-1))
		spoil(answers, -1)
		spoil(p.Uses, api.Use{Limit: -1})
	}
}

// TestEmptyLists is R3: a list without elements is nil, or it is not.
func TestEmptyLists(t *testing.T) {
	l := exampleLines()
	bare := api.Survey{Space: exampleSpace()}
	for _, seasons := range [][]api.Season{nil, {}} {
		for _, readings := range [][]api.Reading{nil, {}} {
			l.Seasons, bare.Readings = seasons, readings
			if n, e := mark.Sure(bare, l, exampleRoute()); n != 0 || e != api.OK {
				t.Error(n, e)
			}
			w, e := mark.Sinks(bare, l, exampleRoute(), one(1))
			mustHold(t, e)
			mustHold(t, mark.CheckSinks(bare, l, exampleRoute(), one(1), w))
		}
	}
}

// TestSameAgain: the result of a call depends on its arguments alone.
func TestSameAgain(t *testing.T) {
	departures(t, 75, 100, func(r *rand.Rand, d departure) {
		a, e1 := mark.Sinks(d.survey, d.lines, d.route, d.mass)
		b, e2 := mark.Sinks(d.survey, d.lines, d.route, d.mass)
		if e1 != e2 || a.Leg != b.Leg || a.Dense != b.Dense || a.Mass != b.Mass || !sameHull(a.Hull, b.Hull) {
			t.Fatal(d.survey, d.lines, d.route, d.mass, a, b)
		}
		p, e1 := mark.Prove(d.survey, d.lines, d.route.Legs[0])
		q, e2 := mark.Prove(d.survey, d.lines, d.route.Legs[0])
		if e1 != e2 || p.Bound != q.Bound || !slices.Equal(p.Uses, q.Uses) {
			t.Fatal(d.survey, d.lines, d.route, p, q)
		}
	})
}

// anyInt is a number that may be anything, often one near a limit.
func anyInt(r *rand.Rand) int {
	edges := []int{0, 1, 365, api.MaxLength, api.MaxDepth, api.MaxExtra, api.MaxZone, api.MaxDay, api.MinDense, api.MaxDense, api.MaxMass, math.MaxInt, math.MinInt}
	switch r.Intn(4) {
	case 0:
		return int(r.Uint64())
	case 1:
		return edges[r.Intn(len(edges))] + r.Intn(3) - 1
	default:
		return r.Intn(5)
	}
}

func anyRange(r *rand.Rand) api.Range { return api.Range{Lo: anyInt(r), Hi: anyInt(r)} }

// disturb writes anything into something of a question.
func (q *question) disturb(r *rand.Rand) {
	n := anyInt(r)
	*[]*int{
		&q.l.Length, &q.l.Depth, &q.l.Table[0].Length, &q.l.Table[1].Least, &q.l.Seasons[0].From, &q.l.Seasons[0].To,
		&q.l.Seasons[0].Extra, &q.l.Seasons[0].Zone, &q.r.Legs[0].From, &q.r.Legs[1].To, &q.r.Legs[1].Zone, &q.x.To, &q.x.Zone,
		&q.zone, &q.day, &q.water, &q.kilo, &q.w.Leg, &q.w.Dense, &q.w.Mass, &q.w.Hull.Rows[1][0], &q.p.Bound, &q.p.Uses[0].Limit,
		&q.p.Uses[1].Times, &q.v.Space.Waters[1], &q.v.Space.Stations[0], &q.v.Space.Fair.Up, &q.v.Readings[0].Value, &q.v.Compares[0].Hi,
	}[r.Intn(29)] = n
	*[]*api.Range{&q.mass, &q.dense, &q.x.Dense, &q.r.Legs[0].Dense, &q.r.Legs[0].Burn, &q.r.Legs[1].Burn}[r.Intn(6)] = anyRange(r)
}

// TestAnyArguments is P1: no call panics, and with an error there are no other results.
func TestAnyArguments(t *testing.T) {
	r := rand.New(rand.NewSource(76))
	told := map[api.Errno]int{}
	for range 4000 {
		q := exampleQuestion()
		mass, dense := q.mass, q.dense
		for range 1 + r.Intn(2) {
			q.disturb(r)
		}
		if r.Intn(2) == 0 {
			q.mass, q.dense = mass, dense
		}
		for _, c := range calls() {
			e, zero := c.ask(q)
			if e != api.OK && !zero {
				t.Fatal(c.name, q, e)
			}
			told[e]++
		}
	}
	for _, e := range []api.Errno{api.OK, api.ErrLines, api.ErrRoute, api.ErrWater, api.ErrMass, api.ErrDense, api.ErrZone, api.ErrAbove, api.ErrWitness} {
		if told[e] < 20 {
			t.Error("too few calls told", e, told[e])
		}
	}
}
