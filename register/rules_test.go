package register_test

import (
	"math"
	"slices"
	"testing"

	"moorsom/api"
	"moorsom/register"
)

// A question has all that functions are asked.
type question struct {
	g, other     api.Register
	r            api.Record
	b            []byte
	at           api.Place
	ship, me, to int
	day, known   int
	from, until  int
	d            api.Drive
	m            api.Memory
	kept         [2]int
	o            api.Office
	message, ack api.Message
	noted        api.Record // what is noted
	opened       api.Drive  // what is opened
}

// A fault is what is wrong with a question, by the error that is told.
type fault struct {
	e     api.Errno
	spoil func(q *question)
}

// What may be wrong.
func badRegister() fault {
	return fault{api.ErrRegister, func(q *question) { q.g.Records = append(slices.Clone(q.g.Records), q.g.Records[0]) }}
}
func longRegister() fault {
	return fault{api.ErrRegister, func(q *question) { q.g = many(81, 0, 0) }}
}
func badOther() fault {
	return fault{api.ErrRegister, func(q *question) { q.other = registerOf(y(), x()) }}
}
func badRecord() fault {
	return fault{api.ErrRecord, func(q *question) { q.r.Known, q.noted.Known, q.message.Record.Known = -1, -1, -1 }}
}
func badBytes() fault { return fault{api.ErrRecord, func(q *question) { q.b = q.b[1:] }} }

// twoRecords: what is added differs from what is there.
func twoRecords() fault {
	return fault{api.ErrTwo, func(q *question) {
		other := x()
		other.Text += "!"
		q.r, q.other.Records, q.message.Record = other, []api.Record{other}, other
	}}
}

// full: there are as many records as may be; they begin with x.
func full() fault {
	return fault{api.ErrLong, func(q *question) {
		l := append([]api.Record{x()}, many(79, 2, 0).Records...)
		q.g = registerOf(l...)
		q.d, q.m = firm(fileOf(1, 0, l...), nil), memoryOf(0, 1, l...)
		q.o.Drive, q.o.Memory = q.d, q.m
	}}
}
func noPlace() fault { return fault{api.ErrNone, func(q *question) { q.at = place(5, 5) }} }
func badPlace() fault {
	return fault{api.ErrNone, func(q *question) { q.at, q.ack.Record.At = place(-1, 5), place(-1, 5) }}
}
func badShip() fault  { return fault{api.ErrArg, func(q *question) { q.ship = 1000 }} }
func lowShip() fault  { return fault{api.ErrArg, func(q *question) { q.ship = 0 }} }
func badMe() fault    { return fault{api.ErrArg, func(q *question) { q.me = 9 }} }
func badTo() fault    { return fault{api.ErrArg, func(q *question) { q.to = 9 }} }
func lowTo() fault    { return fault{api.ErrArg, func(q *question) { q.to = -1 }} }
func self() fault     { return fault{api.ErrArg, func(q *question) { q.to = 1 }} }
func badDay() fault   { return fault{api.ErrDay, func(q *question) { q.day = 100001 }} }
func lowDay() fault   { return fault{api.ErrDay, func(q *question) { q.day = -1 }} }
func badKnown() fault { return fault{api.ErrDay, func(q *question) { q.known = 100001 }} }
func lowKnown() fault { return fault{api.ErrDay, func(q *question) { q.known = -1 }} }
func badFrom() fault  { return fault{api.ErrDay, func(q *question) { q.from = 100001 }} }
func lowFrom() fault  { return fault{api.ErrDay, func(q *question) { q.from = -1 }} }
func badUntil() fault { return fault{api.ErrDay, func(q *question) { q.until = 100001 }} }
func lowUntil() fault { return fault{api.ErrDay, func(q *question) { q.until = -1 }} }
func turned() fault   { return fault{api.ErrArg, func(q *question) { q.until = q.from - 1 }} }
func noLease() fault  { return fault{api.ErrNone, func(q *question) { q.day = 90 }} }
func badDrive() fault {
	return fault{api.ErrDrive, func(q *question) { q.opened.Files[1].Firm, q.d.Files[1].Firm = 7, 7 }}
}
func noMemory() fault { return fault{api.ErrDrive, func(q *question) { q.m.Generation++ }} }
func noFile() fault {
	return fault{api.ErrFile, func(q *question) { q.opened.Files[0] = api.File{Bytes: []byte("moo"), Firm: 1} }}
}
func lastOne() fault {
	return fault{api.ErrDrive, func(q *question) {
		q.d, q.m = firm(fileOf(1000000000, 0, x()), nil), memoryOf(0, 1000000000, x())
	}}
}
func badOffice() fault { return fault{api.ErrOffice, func(q *question) { q.o.Me = -1 }} }
func badNames() fault {
	return fault{api.ErrOffice, func(q *question) { q.o.Known[3] = []api.Place{place(9, 9)} }}
}
func badJournal() fault {
	return fault{api.ErrOffice, func(q *question) { q.o.Memory.Generation++ }}
}
func isLease() fault  { return fault{api.ErrLease, func(q *question) { q.noted.Kind = 1 }} }
func notHome() fault  { return fault{api.ErrLease, func(q *question) { q.ship++ }} }
func tooShort() fault { return fault{api.ErrLease, func(q *question) { q.until = q.from - 1 }} }
func tooLong() fault  { return fault{api.ErrLease, func(q *question) { q.until = q.from + 400 }} }
func notMine() fault {
	return fault{api.ErrArg, func(q *question) { q.message.To, q.ack.To = 2, 2 }}
}
func fromMe() fault {
	return fault{api.ErrArg, func(q *question) { q.message.From, q.ack.From = 1, 1 }}
}
func fromNone() fault {
	return fault{api.ErrArg, func(q *question) { q.message.From, q.ack.From = 9, 9 }}
}
func torn() fault { return fault{api.ErrFile, func(q *question) { q.o.Drive.Files[0].Firm = 5 }} }

// A call is a function with what may be wrong, in the order of the errors.
type call struct {
	name   string
	faults []fault
	// ask returns the error, and whether all other results are zero values.
	ask func(q question) (api.Errno, bool)
}

func calls() []call { return slices.Concat(registerCalls(), leaseCalls(), driveCalls(), officeCalls()) }

// ofRegister has the faults of a register, and others behind them.
func ofRegister(more ...fault) []fault {
	return append([]fault{badRegister(), longRegister()}, more...)
}

func registerCalls() []call {
	return []call{
		{"CheckRecord", []fault{badRecord()}, func(q question) (api.Errno, bool) { return register.CheckRecord(q.r), true }},
		{"Encode", []fault{badRecord()}, func(q question) (api.Errno, bool) {
			b, e := register.Encode(q.r)
			return e, len(b) == 0
		}},
		{"Decode", []fault{badBytes()}, func(q question) (api.Errno, bool) {
			r, e := register.Decode(q.b)
			return e, r == api.Record{}
		}},
		{"Check", ofRegister(), func(q question) (api.Errno, bool) { return register.Check(q.g), true }},
		{"Add", ofRegister(badRecord(), twoRecords(), full()), func(q question) (api.Errno, bool) {
			g, e := register.Add(q.g, q.r)
			return e, len(g.Records) == 0
		}},
		{"Join", ofRegister(badOther(), twoRecords(), full()), func(q question) (api.Errno, bool) {
			g, e := register.Join(q.g, q.other)
			return e, len(g.Records) == 0
		}},
		{"Join, turned", ofRegister(badOther(), twoRecords(), full()), func(q question) (api.Errno, bool) {
			g, e := register.Join(q.other, q.g)
			return e, len(g.Records) == 0
		}},
		{"Stands", ofRegister(noPlace(), badPlace()), func(q question) (api.Errno, bool) {
			s, e := register.Stands(q.g, q.at)
			return e, !s
		}},
		{"Standing", ofRegister(badShip(), lowShip(), badKnown(), lowKnown()), func(q question) (api.Errno, bool) {
			l, e := register.Standing(q.g, q.ship, q.known)
			return e, len(l) == 0
		}},
	}
}

func leaseCalls() []call {
	return []call{
		{"Holder", ofRegister(badShip(), lowShip(), badDay(), lowDay(), noLease()), func(q question) (api.Errno, bool) {
			n, e := register.Holder(q.g, q.ship, q.day)
			return e, n == 0
		}},
		{"Free", ofRegister(badShip(), lowShip(), badFrom(), lowFrom(), badUntil(), lowUntil(), turned()), func(q question) (api.Errno, bool) {
			l, e := register.Free(q.g, q.ship, q.from, q.until)
			return e, len(l) == 0
		}},
		{"Grant", []fault{badOffice(), badNames(), badJournal(), badShip(), badTo(), badFrom(), badUntil(), notHome(), tooShort(), tooLong(), full()}, func(q question) (api.Errno, bool) {
			o, r, e := register.Grant(q.o, q.ship, q.to, q.from, q.until)
			return e, same(o, api.Office{}) && r == api.Record{}
		}},
	}
}

func driveCalls() []call {
	return []call{
		{"Open", []fault{badDrive(), noFile()}, func(q question) (api.Errno, bool) {
			d, m, e := register.Open(q.opened)
			return e, same(d, api.Drive{}) && same(m, api.Memory{})
		}},
		{"Append", []fault{badDrive(), noMemory(), badRecord(), twoRecords(), full()}, func(q question) (api.Errno, bool) {
			d, m, e := register.Append(q.d, q.m, q.r)
			return e, same(d, api.Drive{}) && same(m, api.Memory{})
		}},
		{"Pack", []fault{badDrive(), noMemory(), lastOne()}, func(q question) (api.Errno, bool) {
			way, m, e := register.Pack(q.d, q.m)
			return e, len(way) == 0 && same(m, api.Memory{})
		}},
	}
}

func officeCalls() []call {
	ofOffice := func(more ...fault) []fault { return append([]fault{badOffice(), badNames(), badJournal()}, more...) }
	messages := func(o api.Office, l []api.Message, e api.Errno) (api.Errno, bool) {
		return e, same(o, api.Office{}) && len(l) == 0
	}
	return []call{
		{"NewOffice", []fault{badMe()}, func(q question) (api.Errno, bool) {
			o, e := register.NewOffice(q.me)
			return e, same(o, api.Office{})
		}},
		{"Note", ofOffice(isLease(), badRecord(), full()), func(q question) (api.Errno, bool) {
			o, r, e := register.Note(q.o, q.noted)
			return e, same(o, api.Office{}) && r == api.Record{}
		}},
		{"Offer", ofOffice(badTo(), lowTo(), self()), func(q question) (api.Errno, bool) { return messages(register.Offer(q.o, q.to)) }},
		{"Receive", ofOffice(notMine(), fromMe(), fromNone(), badRecord(), twoRecords(), full()), func(q question) (api.Errno, bool) {
			return messages(register.Receive(q.o, q.message))
		}},
		{"Receive, acknowledged", ofOffice(notMine(), fromMe(), fromNone(), badPlace()), func(q question) (api.Errno, bool) {
			o, _, e := register.Receive(q.o, q.ack)
			return e, same(o, api.Office{})
		}},
		{"Restart", ofOffice(torn()), func(q question) (api.Errno, bool) {
			o, e := register.Restart(q.o, q.kept)
			return e, same(o, api.Office{})
		}},
	}
}

// exampleQuestion is one of which all functions tell something without an error.
func exampleQuestion() question {
	r := happening(4, 4, 10, 5, "room")
	g := registerOf(append([]api.Record{x()}, lease(3, 10, 2, 100, 110))...)
	return question{
		g: g, other: registerOf(r), r: r, b: bytesOf(r), at: place(1, 0), ship: 10, me: 1, to: 2, day: 105, known: 50, from: 200, until: 210,
		d: driveOf(fileOf(1, 0, g.Records...), 10, nil, 0), m: memoryOf(0, 1, g.Records...), opened: firm(fileOf(1, 0, x()), nil),
		o: officeOf(1, g.Records...), message: api.Message{From: 2, To: 1, Record: r}, ack: api.Message{From: 2, To: 1, Ack: true, Record: x()},
		noted: happening(0, 0, 10, 5, "gone"),
	}
}

// TestOrderOfErrors is R1 and R2: whichever faults there are together, the
// error is that of the first one, and nothing is beside it.
func TestOrderOfErrors(t *testing.T) {
	for _, c := range calls() {
		if e, zero := c.ask(exampleQuestion()); e != api.OK || zero != slices.Contains([]string{"CheckRecord", "Check"}, c.name) {
			t.Error(c.name, e, zero)
		}
		for set := 1; set < 1<<len(c.faults); set++ {
			q, want := exampleQuestion(), api.OK
			for i, f := range slices.Backward(c.faults) {
				if set&(1<<i) != 0 {
					f.spoil(&q)
					want = f.e
				}
			}
			if e, zero := c.ask(q); e != want || !zero {
				t.Error(c.name, set, e, want, zero)
			}
		}
	}
}

// TestInvalidRegisters: all functions that take registers refuse them.
func TestInvalidRegisters(t *testing.T) {
	for i, bad := range invalidRegisters() {
		q := exampleQuestion()
		q.g = bad
		for _, c := range slices.Concat(registerCalls()[3:], leaseCalls()[:2]) {
			if e, zero := c.ask(q); e != api.ErrRegister || !zero {
				t.Error(i, c.name, e)
			}
		}
	}
}

// TestDayBounds: the first and the last day may be asked of.
func TestDayBounds(t *testing.T) {
	g := registerOf(lease(0, 10, 3, 0, 0), lease(1, 10, 4, 100000, 100000), told(100000, happening(1, 2, 999, 0, "")), told(0, happening(1, 3, 1, 100000, "")))
	for day, want := range map[int]int{0: 3, 100000: 4} {
		if to, e := register.Holder(g, 10, day); to != want || e != api.OK {
			t.Error(day, to, e)
		}
	}
	if l, e := register.Standing(g, 999, 100000); e != api.OK || len(l) != 1 {
		t.Error(l, e)
	}
	if l, e := register.Standing(g, 1, 0); e != api.OK || len(l) != 1 {
		t.Error(l, e)
	}
	if l, e := register.Free(g, 10, 0, 100000); e != api.OK || !same(l, []api.Range{{Lo: 1, Hi: 99999}}) {
		t.Error(l, e)
	}
}

// TestNilAndEmpty is R3.
func TestNilAndEmpty(t *testing.T) {
	g := api.Register{Records: []api.Record{}}
	if j, e := register.Join(g, api.Register{}); e != api.OK || len(j.Records) != 0 {
		t.Error(j, e)
	}
	o := officeOf(1)
	o.Memory.Register = g
	o.Drive.Files[1].Bytes = []byte{}
	for i := range o.Known {
		o.Known[i] = []api.Place{}
	}
	after, _, e := register.Note(o, x())
	want, _, _ := register.Note(officeOf(1), x())
	if e != api.OK || !same(after, want) {
		t.Error(after, e)
	}
	if d := register.Crash(api.Drive{Files: [2]api.File{{Bytes: []byte{}}}}, [2]int{1, 2}); !same(d, api.Drive{}) {
		t.Error(d)
	}
}

// What is done to results, also behind their ends.
func spoilBytes(b []byte) {
	b = b[:cap(b)]
	for i := range b {
		b[i] = 0xee
	}
}

func spoilDrive(d api.Drive) {
	spoilBytes(d.Files[0].Bytes)
	spoilBytes(d.Files[1].Bytes)
}

func spoilRegister(g api.Register) { clear(g.Records[:cap(g.Records)]) }

func spoilOffice(o api.Office) {
	spoilDrive(o.Drive)
	spoilRegister(o.Memory.Register)
	for _, l := range o.Known {
		clear(l[:cap(l)])
	}
}

// richQuestion is one whose lists have room behind their ends.
func richQuestion() question {
	q := exampleQuestion()
	q.g.Records = slices.Grow(q.g.Records, 9)
	q.other.Records = slices.Grow(q.other.Records, 9)
	q.m.Register.Records = slices.Grow(q.m.Register.Records, 9)
	q.o = others(q.o)
	q.o.Memory.Register.Records = slices.Grow(q.o.Memory.Register.Records, 9)
	for i, l := range q.o.Known {
		q.o.Known[i] = slices.Grow(l, 9)
	}
	for i := range q.d.Files {
		q.d.Files[i].Bytes = slices.Grow(q.d.Files[i].Bytes, 500)
		q.o.Drive.Files[i].Bytes = slices.Grow(q.o.Drive.Files[i].Bytes, 500)
		q.opened.Files[i].Bytes = slices.Grow(q.opened.Files[i].Bytes, 500)
	}
	return q
}

// whole is a question as text, with what stands behind the ends of its lists.
func whole(q question) string {
	s := text(q)
	for _, g := range []api.Register{q.g, q.other, q.m.Register, q.o.Memory.Register} {
		s += text(g.Records[:cap(g.Records)])
	}
	for _, d := range []api.Drive{q.d, q.o.Drive, q.opened} {
		for _, f := range d.Files {
			s += text(f.Bytes[:cap(f.Bytes)])
		}
	}
	for _, l := range q.o.Known {
		s += text(l[:cap(l)])
	}
	return s
}

// TestResultsAreNew is R4: what is done to a result changes no argument, and
// no argument is changed.
func TestResultsAreNew(t *testing.T) {
	q := richQuestion()
	before := whole(q)
	for _, r := range []api.Record{q.r, x()} {
		g, _ := register.Add(q.g, r)
		spoilRegister(g)
		d, m, _ := register.Append(q.d, q.m, r)
		spoilDrive(d)
		spoilRegister(m.Register)
		o, l, _ := register.Receive(q.o, api.Message{From: 2, To: 1, Record: r})
		spoilOffice(o)
		clear(l)
	}
	for _, other := range []api.Register{q.other, {}, q.g} {
		a, _ := register.Join(q.g, other)
		b, _ := register.Join(other, q.g)
		spoilRegister(a)
		spoilRegister(b)
	}
	events, _ := register.Standing(q.g, q.ship, q.known)
	clear(events)
	spoilDrive(register.Sync(q.d))
	spoilDrive(register.Crash(q.d, [2]int{5, 5}))
	for _, d := range invalidDrives() {
		kept := text(d)
		spoilDrive(register.Sync(d))
		spoilDrive(register.Crash(d, [2]int{5, 5}))
		if text(d) != kept {
			t.Error("an invalid drive shares memory")
		}
	}
	d, m, _ := register.Open(q.opened)
	spoilDrive(d)
	spoilRegister(m.Register)
	way, m, _ := register.Pack(q.d, q.m)
	spoilRegister(m.Register)
	for _, d := range way {
		spoilDrive(d)
	}
	a, _, _ := register.Note(q.o, q.noted)
	b, _, _ := register.Grant(q.o, 10, 2, 200, 210)
	c, _, _ := register.Offer(q.o, 2)
	f, _, _ := register.Receive(q.o, q.ack)
	g, _, _ := register.Receive(q.o, api.Message{From: 8, To: 1, Ack: true, Record: x()})
	h, _ := register.Restart(q.o, q.kept)
	for _, o := range []api.Office{a, b, c, f, g, h} {
		spoilOffice(o)
	}
	if whole(q) != before {
		t.Error("results share memory with arguments")
	}
}

// TestListsOfOneResult is R4: no two lists of one result share memory.
func TestListsOfOneResult(t *testing.T) {
	q := richQuestion()
	way, m, e := register.Pack(q.d, q.m)
	mustHold(t, e)
	want := []string{text(way[0]), text(way[1]), text(way[2]), text(way[3])}
	for i, d := range way {
		if text(d) != want[i] {
			t.Error("drives share memory", i)
		}
		for f := range d.Files {
			kept := text(d.Files[1-f])
			spoilBytes(d.Files[f].Bytes)
			if text(d.Files[1-f]) != kept {
				t.Error("files share memory", i)
			}
		}
	}
	if !same(m.Register, q.m.Register) {
		t.Error("a memory shares memory", m)
	}
	shared := []api.Place{place(0, 0), place(0, 1)}
	o := officeOf(1, x())
	o.Known[2], o.Known[3] = shared, shared
	after, _, e := register.Offer(o, 4)
	mustHold(t, e)
	clear(after.Known[2])
	if !slices.Equal(after.Known[3], shared) {
		t.Error("lists of places share memory", after.Known)
	}
	bytes := []byte("both files")
	d := register.Sync(driveOf(bytes, 0, bytes, 0))
	spoilBytes(d.Files[0].Bytes)
	if string(d.Files[1].Bytes) != "both files" {
		t.Error("files share memory", d)
	}
}

// any makes any number, most often one that is near a bound.
func (m maker) any() int {
	edges := []int{-1, 0, 1, 2, 3, 5, 8, 9, 10, 20, 29, 30, 80, 200, 399, 400, 999, 1000, 9999, 10000, 65535, 65536, 100000, 100001, 1000000000, math.MaxInt, math.MinInt}
	return edges[m.Intn(len(edges))]
}

func (m maker) anyRecord() api.Record {
	return api.Record{
		At: place(m.any(), m.any()), Kind: m.any(), Ship: m.any(), Day: m.any(), Known: m.any(), Of: place(m.any(), m.any()), To: m.any(), Until: m.any(),
		Text: string([]byte{byte(m.Intn(256))}),
	}
}

// slightly changes a record, so that it may be valid or not.
func (m maker) slightly(r api.Record) api.Record {
	parts := append(common(), named()...)
	parts[m.Intn(len(parts))].set(&r, m.any())
	return r
}

// slightlyDrive changes some byte, or how many are firm.
func (m maker) slightlyDrive(d api.Drive) api.Drive {
	for i, f := range d.Files {
		b := slices.Clone(f.Bytes)
		if len(b) > 0 && m.Intn(2) == 0 {
			b[m.Intn(len(b))] = byte(m.Intn(256))
		}
		if m.Intn(3) == 0 {
			b = b[:m.Intn(len(b)+1)]
		}
		d.Files[i] = api.File{Bytes: b, Firm: min(f.Firm, len(b))}
		if m.Intn(8) == 0 {
			d.Files[i].Firm = m.any()
		}
	}
	return d
}

// anyQuestion makes one of which hardly anything is valid.
func (m maker) anyQuestion(g api.Register) question {
	q := exampleQuestion()
	if m.Intn(3) > 0 {
		q.ship, q.to, q.day, q.known, q.from, q.until, q.me = m.any(), m.any(), m.any(), m.any(), m.any(), m.any(), m.any()
	}
	q.g, q.other, q.at, q.kept = g, m.some(g), place(m.any(), m.any()), [2]int{m.any(), m.any()}
	q.r, q.b = m.anyRecord(), []byte(m.words())
	records := m.shuffled(g.Records)
	q.d, q.m = driveOf(fileOf(1+m.Intn(3), m.Intn(3), records...), m.Intn(10), fileOf(1+m.Intn(3), 0), 3), memoryOf(m.Intn(2), 1, records...)
	q.o = officeOf(m.Intn(9), records...)
	if len(records) > 0 {
		q.r = m.slightly(records[0])
		q.at = records[0].At
		if m.Intn(4) == 0 {
			q.g = registerOf(append(slices.Clone(g.Records), q.r)...)
		}
	}
	q.noted, q.opened = q.r, m.slightlyDrive(q.d)
	q.message = api.Message{From: m.Intn(11) - 1, To: q.o.Me, Ack: m.Intn(4) == 0, Record: q.r}
	if m.Intn(4) == 0 {
		q.o.Drive = m.slightlyDrive(q.o.Drive)
		q.o.Known[m.Intn(9)] = []api.Place{place(m.any(), m.any()), q.at}
	}
	return q
}

// TestAnyArguments is P1: no arguments make a function panic; whatever they
// are, nothing is beside an error.
func TestAnyArguments(t *testing.T) {
	errors := map[api.Errno]int{}
	registers(t, 81, 1500, func(m maker, g api.Register) {
		q := m.anyQuestion(g)
		before := text(q)
		for _, c := range calls() {
			e, zero := c.ask(q)
			if e != api.OK && !zero {
				t.Fatal(c.name, q, e)
			}
			errors[e]++
		}
		register.Next(q.g, q.to)
		register.Home(q.ship)
		register.Sync(q.opened)
		register.Crash(q.opened, q.kept)
		if text(q) != before {
			t.Fatal(q)
		}
	})
	for _, e := range []api.Errno{api.OK, api.ErrArg, api.ErrNone, api.ErrDay, api.ErrRecord, api.ErrRegister, api.ErrTwo, api.ErrDrive, api.ErrFile, api.ErrLease, api.ErrOffice} {
		if errors[e] < 20 {
			t.Error("too seldom", e, errors[e])
		}
	}
}

// TestAnyFiles: whatever stands in files, what Open returns is a journal, and
// no valid office is behind an error.
func TestAnyFiles(t *testing.T) {
	opened := 0
	registers(t, 82, 1500, func(m maker, g api.Register) {
		q := m.anyQuestion(g)
		d, memory, e := register.Open(q.opened)
		if e != api.OK {
			return
		}
		opened++
		if way, _, e := register.Pack(d, memory); e != api.OK || !same(way[0], d) {
			t.Fatal(q.opened, d, memory, e)
		}
		again, m2, e := register.Open(d)
		if e != api.OK || !same(again, d) || !same(m2, memory) {
			t.Fatal(q.opened, d, again, e)
		}
	})
	if opened < 300 {
		t.Error("too seldom", opened)
	}
}
