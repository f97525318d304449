package register_test

import (
	"cmp"
	"encoding/binary"
	"fmt"
	"math/rand"
	"slices"
	"strings"
	"testing"

	"moorsom/api"
	"moorsom/register"
)

// text is a value as text, in which nil and empty lists are the same.
func text(a any) string { return fmt.Sprint(a) }

// same holds values against each other.
func same(a, b any) bool { return text(a) == text(b) }

// mustHold fails a test if an error is not OK.
func mustHold(t *testing.T, e api.Errno, what ...any) {
	t.Helper()
	if e != api.OK {
		t.Fatal(append(what, e)...)
	}
}

func place(office, seq int) api.Place { return api.Place{Office: office, Seq: seq} }

// happening is an event that is known on its day.
func happening(office, seq, ship, day int, words string) api.Record {
	return api.Record{At: place(office, seq), Kind: 2, Ship: ship, Day: day, Known: day, Text: words}
}

func withdrawal(office, seq, known, of int) api.Record {
	return api.Record{At: place(office, seq), Known: known, Of: place(office, of)}
}

// lease is of the ship's home.
func lease(seq, ship, to, day, until int) api.Record {
	return api.Record{At: place(ship%9, seq), Kind: 1, Ship: ship, To: to, Day: day, Until: until, Known: day}
}

// told is a record that is known on another day.
func told(known int, r api.Record) api.Record {
	r.Known = known
	return r
}

// The records of the chapter's examples.
func x() api.Record { return told(6, happening(1, 0, 10, 5, "build")) }
func y() api.Record { return withdrawal(1, 1, 9, 0) }
func z() api.Record { return withdrawal(1, 2, 12, 1) }

func registerOf(records ...api.Record) api.Register { return api.Register{Records: records} }

// many is a register with so many events of an office, of ship 5.
func many(n, office, first int) api.Register {
	var g api.Register
	for i := range n {
		g.Records = append(g.Records, happening(office, first+i, 5, i, fmt.Sprint("event ", i)))
	}
	return g
}

// What the chapter says, by its own means.

// sourceOf numbers the places in their order.
func sourceOf(p api.Place) int { return 10000*p.Office + p.Seq }

// inOrder is records by their places.
func inOrder(l []api.Record) []api.Record {
	l = slices.Clone(l)
	slices.SortStableFunc(l, func(a, b api.Record) int { return cmp.Compare(sourceOf(a.At), sourceOf(b.At)) })
	return l
}

// bytesOf are the bytes of a record whose numbers fit.
func bytesOf(r api.Record) []byte {
	b := []byte{byte(r.At.Office)}
	b = binary.BigEndian.AppendUint16(b, uint16(r.At.Seq))
	b = append(b, byte(r.Kind))
	b = binary.BigEndian.AppendUint16(b, uint16(r.Ship))
	b = binary.BigEndian.AppendUint32(b, uint32(r.Day))
	b = binary.BigEndian.AppendUint32(b, uint32(r.Known))
	b = append(b, byte(r.Of.Office))
	b = binary.BigEndian.AppendUint16(b, uint16(r.Of.Seq))
	b = append(b, byte(r.To))
	b = binary.BigEndian.AppendUint32(b, uint32(r.Until))
	return append(append(b, byte(len(r.Text))), r.Text...)
}

// fileOf has the bytes of a journal.
func fileOf(generation, count int, records ...api.Record) []byte {
	b := binary.BigEndian.AppendUint32([]byte("moor"), uint32(generation))
	b = binary.BigEndian.AppendUint16(b, uint16(count))
	for _, r := range records {
		b = append(append(b, byte(len(bytesOf(r)))), bytesOf(r)...)
	}
	return b
}

// driveOf is a drive with these bytes, of which so many are firm.
func driveOf(a []byte, firmA int, b []byte, firmB int) api.Drive {
	return api.Drive{Files: [2]api.File{{Bytes: a, Firm: firmA}, {Bytes: b, Firm: firmB}}}
}

// firm is a drive with these bytes, all firm.
func firm(a, b []byte) api.Drive { return driveOf(a, len(a), b, len(b)) }

// memoryOf is that of a file with these records.
func memoryOf(file, generation int, records ...api.Record) api.Memory {
	return api.Memory{Register: registerOf(inOrder(records)...), File: file, Generation: generation}
}

// officeOf has records in the file 0, all firm.
func officeOf(me int, records ...api.Record) api.Office {
	return api.Office{Me: me, Drive: firm(fileOf(1, 0, records...), nil), Memory: memoryOf(0, 1, records...)}
}

// stands says whether a record of a register stands, as known on a day.
func stands(g api.Register, r api.Record, known int) bool {
	return r.Known <= known && (r.Kind == 1 || !slices.ContainsFunc(g.Records, func(w api.Record) bool {
		return w.Kind == 0 && w.Of == r.At && stands(g, w, known)
	}))
}

// held says which leases on a ship are held on a day.
func held(g api.Register, ship, day int) []api.Record {
	var l []api.Record
	for _, r := range g.Records {
		if r.Kind == 1 && r.Ship == ship && r.Day <= day && day <= r.Until {
			l = append(l, r)
		}
	}
	return l
}

// has says whether a register has a record.
func has(g api.Register, r api.Record) bool { return slices.Contains(g.Records, r) }

// A maker makes records and what has them. Its days are less than top.
type maker struct {
	*rand.Rand
	top int
}

func newMaker(seed int64, top int) maker { return maker{rand.New(rand.NewSource(seed)), top} }

func (m maker) words() string {
	if m.Intn(8) == 0 {
		return strings.Repeat("~", 190+m.Intn(11))
	}
	b := make([]byte, m.Intn(12))
	for i := range b {
		b[i] = byte(0x20 + m.Intn(0x5f))
	}
	return string(b)
}

// record makes a valid record.
func (m maker) record(at api.Place) api.Record {
	r := api.Record{At: at, Known: m.Intn(m.top)}
	switch {
	case at.Seq > 0 && m.Intn(3) == 0:
		r.Of = place(at.Office, m.Intn(at.Seq))
		if m.Intn(2) == 0 { // one that is likely to be there
			r.Of.Seq = at.Seq - 1
		}
	case m.Intn(3) == 0:
		r.Kind, r.Ship, r.To, r.Day = 1, 9+at.Office, m.Intn(9), m.Intn(m.top)
		r.Until = r.Day + m.Intn(min(m.top, 400))
	default:
		r.Kind, r.Ship, r.Day, r.Text = 2+m.Intn(28), 9+m.Intn(10), m.Intn(m.top), m.words()
	}
	return r
}

// register makes a valid register with at most so many records.
func (m maker) register(most int) api.Register {
	var g api.Register
	for office := range 9 {
		if m.Intn(2) == 0 {
			continue
		}
		seq := m.Intn(3)
		for range m.Intn(8) {
			if len(g.Records) < most {
				g.Records = append(g.Records, m.record(place(office, seq)))
			}
			seq += 1 + m.Intn(5)/4
		}
	}
	return g
}

// some is a part of a register.
func (m maker) some(g api.Register) api.Register {
	var some api.Register
	for _, r := range g.Records {
		if m.Intn(2) == 0 {
			some.Records = append(some.Records, r)
		}
	}
	return some
}

// shuffled is records in any order.
func (m maker) shuffled(l []api.Record) []api.Record {
	l = slices.Clone(l)
	m.Shuffle(len(l), func(i, j int) { l[i], l[j] = l[j], l[i] })
	return l
}

// registers tells many registers, with a maker of more.
func registers(t *testing.T, seed int64, many int, tell func(m maker, g api.Register)) {
	t.Helper()
	m := newMaker(seed, 30)
	for range many {
		g := m.register(80)
		mustHold(t, register.Check(g), g)
		tell(m, g)
	}
}
