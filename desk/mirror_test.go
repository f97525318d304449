package desk_test

import (
	"bytes"
	"cmp"
	"fmt"
	"slices"
	"strconv"
	"strings"

	"moorsom/api"
	"moorsom/code"
	"moorsom/desk"
	"moorsom/dues"
	"moorsom/life"
	"moorsom/mark"
	"moorsom/offsets"
	"moorsom/probe"
	"moorsom/register"
)

// A mirror does what a desk is to do, by the functions of the lower layers.
type mirror struct {
	offices  [9]api.Office
	laws     []api.Law
	passages []api.Passage
	lines    api.Lines
	legs     []api.Leg
	tries    []api.Try
	wires    []api.Message
}

func newMirror() *mirror {
	m := &mirror{}
	for i := range m.offices {
		m.offices[i], _ = register.NewOffice(i)
	}
	return m
}

// stop ends what is done with an error.
func stop(e api.Errno) {
	if e != api.OK {
		panic(e)
	}
}

func require(isSo bool, e api.Errno) {
	if !isSo {
		stop(e)
	}
}

func get[T any](x T, e api.Errno) T {
	stop(e)
	return x
}

// do does a command that is right, and whose office, if it has one, is there.
func (m *mirror) do(c api.Command) (lines []string) {
	before := *m
	isDelivery := c.Kind == api.CmdDeliver
	defer func() {
		if e := recover(); e != nil {
			left := m.wires
			*m = before
			if isDelivery {
				m.wires = left
			}
			lines = []string{fmt.Sprintf("error %d", e)}
		}
	}()
	switch {
	case c.Kind <= api.CmdClear:
		m.setUp(c, c.Args)
		return []string{"ok"}
	case c.Kind <= api.CmdGrant:
		return m.record(c, c.Args)
	case c.Kind <= api.CmdPack:
		return m.exchange(c, c.Args)
	case c.Kind <= api.CmdMoved:
		return m.ask(c, c.Args)
	}
	return m.measure(c, c.Args)
}

func (m *mirror) setUp(c api.Command, a []int) {
	switch c.Kind {
	case api.CmdCode:
		rules, _, e := code.Parse(c.Texts[0])
		stop(e)
		require(1 <= a[0] && a[0] <= 9, api.ErrArg)
		laws := slices.DeleteFunc(slices.Clone(m.laws), func(l api.Law) bool { return l.Flag == a[0] })
		require(len(laws) < 4, api.ErrLong)
		m.laws = append(laws, api.Law{Flag: a[0], Code: rules})
		slices.SortFunc(m.laws, func(x, y api.Law) int { return cmp.Compare(x.Flag, y.Flag) })
	case api.CmdPassage:
		p := api.Passage{Id: a[0], Ship: a[1], Day: a[2], Known: a[3], Rate: a[4]}
		m.passages = get(dues.Add(api.Files{Passages: m.passages}, p)).Passages
	case api.CmdLines:
		m.lines = api.Lines{Length: a[0], Depth: a[1]}
	case api.CmdFreeboard:
		m.lines.Table = append(slices.Clone(m.lines.Table), api.Freeboard{Length: a[0], Least: a[1]})
		require(len(m.lines.Table) <= 20, api.ErrLong)
	case api.CmdSeason:
		m.lines.Seasons = append(slices.Clone(m.lines.Seasons), api.Season{Zone: a[0], From: a[1], To: a[2], Extra: a[3]})
		require(len(m.lines.Seasons) <= 30, api.ErrLong)
	case api.CmdLeg:
		m.legs = append(slices.Clone(m.legs), api.Leg{
			Zone: a[0], From: a[1], To: a[2], Dense: api.Range{Lo: a[3], Hi: a[4]}, Burn: api.Range{Lo: a[5], Hi: a[6]},
		})
		require(len(m.legs) <= 12, api.ErrLong)
	case api.CmdTry:
		m.tries = append(slices.Clone(m.tries), api.Try{Station: a[0], Water: a[1], Tolerance: a[2]})
		require(len(m.tries) <= 8, api.ErrLong)
	case api.CmdClear:
		m.legs, m.tries = nil, nil
	}
}

// placesOf are the numbers of a text.
func placesOf(s string) []int {
	var l []int
	for _, w := range strings.Split(s, " ") {
		if w == "" {
			continue
		}
		n, err := strconv.Atoi(w)
		require(err == nil && strconv.Itoa(n) == w && n <= 1000000000000 && n >= -1000000000000, api.ErrText)
		l = append(l, n)
	}
	require(len(l) <= 20, api.ErrText)
	return l
}

// eventOf is the event that a command says.
func eventOf(c api.Command, at api.Place) api.Event {
	a, source := c.Args, 10000*at.Office+at.Seq+1
	if c.Kind == api.CmdWithdraw {
		return api.Event{At: at, Kind: api.EvWithdraw, Known: a[1], Of: place(a[0], a[2])}
	}
	x := api.Event{At: at, Ship: a[1], Day: a[2], Known: a[3]}
	spaceOf := func(id, along, up int) api.Space {
		return api.Space{Id: id, Source: source, Stations: placesOf(c.Texts[0]), Waters: placesOf(c.Texts[1]), Fair: api.Fair{Along: along, Up: up}}
	}
	switch c.Kind {
	case api.CmdBuild:
		x.Kind, x.Num, x.Space = api.EvBuild, a[4], spaceOf(a[5], a[6], a[7])
	case api.CmdRoom:
		x.Kind, x.Num, x.Opening, x.Crew, x.Space = api.EvRoom, a[4], a[5], a[6], spaceOf(a[7], a[8], a[9])
	case api.CmdGone:
		x.Kind, x.Room = api.EvGone, a[4]
	case api.CmdKind:
		x.Kind, x.Room, x.Num = api.EvKind, a[4], a[5]
	case api.CmdOpening:
		x.Kind, x.Room, x.Num = api.EvOpening, a[4], a[5]
	case api.CmdCrew:
		x.Kind, x.Room, x.Num = api.EvCrew, a[4], a[5]
	case api.CmdFlag:
		x.Kind, x.Num = api.EvFlag, a[4]
	case api.CmdRead:
		x.Kind, x.Room = api.EvRead, a[4]
		x.Reading = api.Reading{Source: source, Station: a[5], Water: a[6], Value: a[7], Tolerance: a[8], Tape: a[9], Day: a[2]}
	case api.CmdTape:
		x.Kind, x.Compare = api.EvTape, api.Compare{Source: source, Tape: a[4], From: a[5], To: a[6], Lo: a[7], Hi: a[8]}
	}
	return x
}

func (m *mirror) record(c api.Command, a []int) []string {
	o := m.offices[a[0]]
	var made api.Record
	var e api.Errno
	if c.Kind == api.CmdGrant {
		o, made, e = register.Grant(o, a[1], a[2], a[3], a[4])
	} else {
		r := get(life.Write(eventOf(c, place(a[0], register.Next(o.Memory.Register, a[0])))))
		o, made, e = register.Note(o, r)
	}
	stop(e)
	m.offices[a[0]] = o
	return []string{fmt.Sprintf("record %d %d", made.At.Office, made.At.Seq)}
}

func (m *mirror) exchange(c api.Command, a []int) []string {
	switch c.Kind {
	case api.CmdRestart, api.CmdPack:
		o := m.offices[a[0]]
		if c.Kind == api.CmdRestart {
			o = get(register.Restart(o, [2]int{a[1], a[2]}))
		} else {
			way, memory, e := register.Pack(o.Drive, o.Memory)
			stop(e)
			o.Drive, o.Memory = way[3], memory
		}
		m.offices[a[0]] = o
		return []string{fmt.Sprintf("records %d", len(o.Memory.Register.Records))}
	case api.CmdOffer:
		require(0 <= a[0] && a[0] <= 8, api.ErrArg)
		o, messages, e := register.Offer(m.offices[a[0]], a[1])
		stop(e)
		m.offices[a[0]] = o
		m.wires = slices.Concat(m.wires, messages)
	default:
		require(len(m.wires) > 0, api.ErrNone)
		i := ((a[0] % len(m.wires)) + len(m.wires)) % len(m.wires)
		x := m.wires[i]
		if c.Kind == api.CmdDouble {
			m.wires = slices.Concat(m.wires, []api.Message{x})
			break
		}
		m.wires = slices.Concat(m.wires[:i], m.wires[i+1:])
		if c.Kind == api.CmdDeliver {
			o, answers, e := register.Receive(m.offices[x.To], x)
			stop(e)
			m.offices[x.To] = o
			m.wires = slices.Concat(m.wires, answers)
		}
	}
	require(len(m.wires) <= 80, api.ErrLong)
	return []string{fmt.Sprintf("messages %d", len(m.wires))}
}

// listed writes items, each with a word ahead.
func listed[T any](word string, items []T, numbers func(T) []int) []string {
	var lines []string
	for _, x := range items {
		lines = append(lines, strings.TrimPrefix(word+" "+strings.Trim(fmt.Sprint(numbers(x)), "[]"), " "))
	}
	return lines
}

func orNone(lines []string) []string {
	if len(lines) == 0 {
		return []string{"none"}
	}
	return lines
}

func certNumbers(c api.Cert) []int {
	return []int{c.From, c.To, c.Flag, c.Figures.Gross.Lo, c.Figures.Gross.Hi, c.Figures.Net.Lo, c.Figures.Net.Hi}
}

func rangeNumbers(r api.Range) []int { return []int{r.Lo, r.Hi} }

func placeNumbers(p api.Place) []int { return []int{p.Office, p.Seq} }

func (m *mirror) files(office int) api.Files {
	return api.Files{Events: get(desk.Events(m.offices[office].Memory.Register)), Laws: m.laws, Passages: m.passages}
}

// ask does the queries about the files of an office.
func (m *mirror) ask(c api.Command, a []int) []string {
	if c.Kind == api.CmdIssue {
		return m.issue(a)
	}
	f := m.files(a[0])
	switch c.Kind {
	case api.CmdState:
		s := get(life.State(f.Events, a[1], a[2], a[3]))
		rooms := get(life.Rooms(s))
		lines := []string{fmt.Sprint("flag ", s.Flag), fmt.Sprintf("hull %d %d", s.Hull.Space.Id, len(s.Hull.Readings))}
		return append(lines, listed("room", rooms, func(r api.Room) []int {
			return []int{r.Id, r.Kind, r.Opening, r.Crew, r.Litres.Lo, r.Litres.Hi}
		})...)
	case api.CmdFigures:
		x := get(dues.Figures(f, a[1], a[2], a[3]))
		return []string{fmt.Sprintf("gross %d %d", x.Gross.Lo, x.Gross.Hi), fmt.Sprintf("net %d %d", x.Net.Lo, x.Net.Hi)}
	case api.CmdCerts:
		return orNone(listed("", get(dues.Certs(f, a[1], a[2])), certNumbers))
	case api.CmdDue:
		return []string{fmt.Sprint(get(dues.Due(f, a[1], a[2])))}
	case api.CmdLedger:
		return orNone(listed("", get(dues.Ledger(f, a[1], a[2])), func(p api.Post) []int { return []int{p.Known, p.Passage, p.Amount} }))
	case api.CmdBalance:
		return []string{fmt.Sprintf("%d %d", get(dues.Balance(f, a[1], a[2])), get(dues.Refunds(f, a[1], a[2])))}
	case api.CmdLineage:
		return orNone(listed("", get(dues.Lineage(f, a[1], a[2], a[3])), placeNumbers))
	}
	return orNone(listed("", get(dues.Moved(f, a[1], a[2], place(a[3], a[4]))), certNumbers))
}

func (m *mirror) issue(a []int) []string {
	to, e := register.Holder(m.offices[a[0]].Memory.Register, a[1], a[2])
	require(e == api.OK || e == api.ErrNone, e)
	require(e == api.OK && to == a[0], api.ErrLease)
	fresh, gone, e := dues.Issued(m.files(a[0]), a[1], a[2])
	stop(e)
	return orNone(append(listed("more", fresh, certNumbers), listed("gone", gone, certNumbers)...))
}

// measure does the queries about hulls, and those about registers.
func (m *mirror) measure(c api.Command, a []int) []string {
	route := api.Route{Legs: m.legs}
	switch c.Kind {
	case api.CmdHolder:
		return []string{fmt.Sprint(get(register.Holder(m.offices[a[0]].Memory.Register, a[1], a[2])))}
	case api.CmdFree:
		return orNone(listed("", get(register.Free(m.offices[a[0]].Memory.Register, a[1], a[2], a[3])), rangeNumbers))
	case api.CmdCounts:
		return listed("records", m.offices[:], func(o api.Office) []int { return []int{len(o.Memory.Register.Records)} })
	case api.CmdProve, api.CmdFewest, api.CmdClash:
		return m.survey(c, a)
	}
	v := get(life.State(m.files(a[0]).Events, a[1], a[2], a[3])).Hull
	switch c.Kind {
	case api.CmdTable:
		return listed("", get(mark.Table(v)), rangeNumbers)
	case api.CmdSure:
		return []string{fmt.Sprint(get(mark.Sure(v, m.lines, route)))}
	}
	mass := api.Range{Lo: a[4], Hi: a[5]}
	if c.Kind == api.CmdJudge {
		return []string{[]string{"no", "yes", "maybe"}[get(mark.Judge(v, m.lines, route, mass))]}
	}
	w := get(mark.Sinks(v, m.lines, route, mass))
	return append([]string{fmt.Sprintf("leg %d %d %d", w.Leg, w.Dense, w.Mass)}, listed("row", w.Hull.Rows, func(l []int) []int { return l })...)
}

// survey does the queries about the survey of a space.
func (m *mirror) survey(c api.Command, a []int) []string {
	v := get(life.Survey(m.files(a[0]).Events, a[1], a[4], a[2], a[3]))
	w := whole(v)
	switch c.Kind {
	case api.CmdProve:
		require(a[5] == 0 || a[5] == 1, api.ErrArg)
		p := get(offsets.Prove(v, w, a[5] == 1))
		return append([]string{fmt.Sprint("bound ", p.Bound)}, listed("use", p.Uses, func(u api.Use) []int { return []int{u.Limit, u.Times} })...)
	case api.CmdFewest:
		q := get(desk.Question(v, w, a[5]))
		pick := get(probe.Fewest(q, get(desk.Probes(v, m.tries))))
		return []string{strings.TrimSpace(listed("pick", [][]int{pick.Probes}, func(l []int) []int { return l })[0]), fmt.Sprint("width ", pick.Width)}
	}
	return listed("", [][]int{get(offsets.Clash(v))}, func(l []int) []int { return l })
}

// sameOffice holds offices against each other.
func sameOffice(a, b api.Office) bool {
	for i, f := range a.Drive.Files {
		if g := b.Drive.Files[i]; !bytes.Equal(f.Bytes, g.Bytes) || f.Firm != g.Firm {
			return false
		}
	}
	for i, l := range a.Known {
		if !slices.Equal(l, b.Known[i]) {
			return false
		}
	}
	return a.Me == b.Me && a.Memory.File == b.Memory.File && a.Memory.Generation == b.Memory.Generation &&
		slices.Equal(a.Memory.Register.Records, b.Memory.Register.Records)
}
