package register_test

import (
	"bytes"
	"math"
	"slices"
	"testing"

	"moorsom/api"
	"moorsom/register"
)

func TestNew(t *testing.T) {
	d, m := register.New()
	if !same(d, firm([]byte("moor\x00\x00\x00\x01\x00\x00"), nil)) || !same(m, memoryOf(0, 1)) {
		t.Error(d, m)
	}
}

func TestSync(t *testing.T) {
	if d := register.Sync(driveOf([]byte("abc"), 1, []byte("de"), 0)); !same(d, firm([]byte("abc"), []byte("de"))) {
		t.Error(d)
	}
	if d := register.Sync(api.Drive{}); !same(d, api.Drive{}) {
		t.Error(d)
	}
	long := firm(make([]byte, 100000), make([]byte, 100000))
	if d := register.Sync(driveOf(long.Files[0].Bytes, 5, long.Files[1].Bytes, 0)); !same(d, long) {
		t.Error("a drive with the longest files")
	}
}

// invalidDrives are such.
func invalidDrives() []api.Drive {
	long := make([]byte, 100001)
	return []api.Drive{
		driveOf([]byte("abc"), -1, nil, 0), driveOf([]byte("abc"), 4, nil, 0), driveOf(nil, 1, nil, 0), driveOf([]byte("abc"), math.MinInt, nil, 0),
		driveOf(fileOf(1, 0), 10, []byte("abc"), -1), driveOf(fileOf(1, 0), 10, []byte("abc"), 4), driveOf(fileOf(1, 0), 10, nil, math.MaxInt),
		driveOf(append(fileOf(1, 0), long...), 0, nil, 0), driveOf(fileOf(1, 0), 10, long, 0),
	}
}

// TestInvalidDrives: they are returned as they are, but not opened.
func TestInvalidDrives(t *testing.T) {
	for i, d := range invalidDrives() {
		if s := register.Sync(d); !same(s, d) {
			t.Error(i, "Sync")
		}
		if c := register.Crash(d, [2]int{1, 1}); !same(c, d) {
			t.Error(i, "Crash")
		}
		if o, m, e := register.Open(d); e != api.ErrDrive || !same(o, api.Drive{}) || !same(m, api.Memory{}) {
			t.Error(i, e)
		}
	}
}

func TestCrash(t *testing.T) {
	a, b := []byte("abcdefgh"), []byte("uvwxyz")
	for _, c := range []struct {
		kept [2]int
		a, b int
	}{
		{[2]int{0, 0}, 3, 6}, {[2]int{1, 9}, 4, 6}, {[2]int{5, -9}, 8, 6}, {[2]int{6, 0}, 3, 6}, {[2]int{-1, 0}, 8, 6}, {[2]int{-6, 0}, 3, 6}, {[2]int{-7, 0}, 8, 6},
		{[2]int{math.MaxInt, math.MinInt}, 3 + math.MaxInt%6, 6}, {[2]int{math.MinInt, math.MaxInt}, 3 + (6+math.MinInt%6)%6, 6},
	} {
		if d := register.Crash(driveOf(a, 3, b, 6), c.kept); !same(d, firm(a[:c.a], b[:c.b])) {
			t.Error(c, d)
		}
		if d := register.Crash(driveOf(b, 6, a, 3), [2]int{c.kept[1], c.kept[0]}); !same(d, firm(b[:c.b], a[:c.a])) {
			t.Error(c, d)
		}
	}
	if d := register.Crash(driveOf(a, 0, b, 0), [2]int{9, 13}); !same(d, firm(nil, b)) {
		t.Error(d)
	}
}

// TestJournalExample is that of the chapter.
func TestJournalExample(t *testing.T) {
	d, m := register.New()
	d, m, e := register.Append(d, m, x())
	if e != api.OK || !same(d, driveOf(fileOf(1, 0, x()), 10, nil, 0)) || len(d.Files[0].Bytes) != 39 || !same(m, memoryOf(0, 1, x())) {
		t.Error(d, m, e)
	}
	o, n, e := register.Open(register.Crash(d, [2]int{28, 0}))
	if e != api.OK || len(n.Register.Records) != 0 || len(o.Files[0].Bytes) != 10 {
		t.Error(o, n, e)
	}
	o, n, e = register.Open(register.Crash(d, [2]int{29, 0}))
	if e != api.OK || !same(n, m) || !same(o, register.Sync(d)) {
		t.Error(o, n, e)
	}
	way, n, e := register.Pack(d, m)
	old, next := fileOf(1, 0, x()), fileOf(2, 1, x())
	want := []api.Drive{firm(old, nil), driveOf(old, 39, next, 0), firm(old, next), firm(nil, next)}
	if e != api.OK || !same(way, want) || !same(n, memoryOf(1, 2, x())) {
		t.Error(way, n, e)
	}
	way, n, e = register.Pack(way[3], n)
	last := fileOf(3, 1, x())
	want = []api.Drive{firm(nil, next), driveOf(last, 0, next, 39), firm(last, next), firm(last, nil)}
	if e != api.OK || !same(way, want) || !same(n, memoryOf(0, 3, x())) {
		t.Error(way, n, e)
	}
}

func TestOpen(t *testing.T) {
	a, b := happening(0, 0, 1, 1, "a"), happening(0, 1, 1, 1, "b")
	with := func(b []byte, more ...byte) []byte { return append(slices.Clone(b), more...) }
	for i, c := range []struct {
		d    api.Drive
		want api.Drive
		m    api.Memory
	}{
		{firm(fileOf(1, 0), nil), firm(fileOf(1, 0), nil), memoryOf(0, 1)},
		{firm(nil, fileOf(1, 0)), firm(nil, fileOf(1, 0)), memoryOf(1, 1)},
		{firm(fileOf(1, 2, b, a), nil), firm(fileOf(1, 2, b, a), nil), memoryOf(0, 1, a, b)},
		{driveOf(fileOf(1, 2, a, b), 0, nil, 0), firm(fileOf(1, 2, a, b), nil), memoryOf(0, 1, a, b)},
		{firm(fileOf(1, 0, a, b), fileOf(2, 0)), firm(nil, fileOf(2, 0)), memoryOf(1, 2)},
		{firm(fileOf(3, 0, a), fileOf(2, 1, b)), firm(fileOf(3, 0, a), nil), memoryOf(0, 3, a)},
		{firm(fileOf(2, 0, a), fileOf(2, 1, b)), firm(fileOf(2, 0, a), nil), memoryOf(0, 2, a)},
		{firm(fileOf(2, 2, a), fileOf(1, 1, b)), firm(nil, fileOf(1, 1, b)), memoryOf(1, 1, b)},
		{firm(fileOf(1000000000, 0), fileOf(999999999, 0)), firm(fileOf(1000000000, 0), nil), memoryOf(0, 1000000000)},
		{firm(fileOf(1000000001, 0, a), fileOf(5, 0, b)), firm(nil, fileOf(5, 0, b)), memoryOf(1, 5, b)},
		{firm(fileOf(0, 0, a), fileOf(5, 0, b)), firm(nil, fileOf(5, 0, b)), memoryOf(1, 5, b)},
		{firm(fileOf(4294967295, 0, a), fileOf(5, 0, b)), firm(nil, fileOf(5, 0, b)), memoryOf(1, 5, b)},
		{firm(fileOf(0x01020304, 0, a), fileOf(0x04030201, 0, b)), firm(nil, fileOf(0x04030201, 0, b)), memoryOf(1, 0x04030201, b)},
		// What is behind the frames is lost; what is behind a frame that is wrong, too.
		{firm(with(fileOf(1, 1, a), 5, 1, 2), []byte("rest")), firm(fileOf(1, 1, a), nil), memoryOf(0, 1, a)},
		{firm(with(fileOf(1, 0, a), 0), nil), firm(fileOf(1, 0, a), nil), memoryOf(0, 1, a)},
		{firm(append(with(fileOf(1, 0, a), 0), fileOf(1, 0, b)[10:]...), nil), firm(fileOf(1, 0, a), nil), memoryOf(0, 1, a)},
		{firm(fileOf(1, 0, a, told(100001, b), b), nil), firm(fileOf(1, 0, a), nil), memoryOf(0, 1, a)},
		{firm(fileOf(1, 0, told(100001, a), b), nil), firm(fileOf(1, 0), nil), memoryOf(0, 1)},
		{firm(fileOf(1, 0, many(80, 0, 0).Records...), nil), firm(fileOf(1, 0, many(80, 0, 0).Records...), nil), memoryOf(0, 1, many(80, 0, 0).Records...)},
		{firm(append(fileOf(1, 0), make([]byte, 99990)...), nil), firm(fileOf(1, 0), nil), memoryOf(0, 1)},
	} {
		d, m, e := register.Open(c.d)
		if e != api.OK || !same(d, c.want) || !same(m, c.m) {
			t.Error(i, d, m, e)
		}
	}
}

// TestOpenLongFrame: a frame has the bytes of its record, and no more.
func TestOpenLongFrame(t *testing.T) {
	for _, change := range []int{-1, 1} {
		b := append(fileOf(1, 0, x()), 0, 0, 0)
		b[10] = byte(int(b[10]) + change)
		d, m, e := register.Open(firm(b, nil))
		if e != api.OK || !same(d, firm(fileOf(1, 0), nil)) || !same(m, memoryOf(0, 1)) {
			t.Error(change, d, m, e)
		}
	}
}

func TestOpenNothing(t *testing.T) {
	a := happening(0, 0, 1, 1, "a")
	wrongLetters := fileOf(1, 0, a)
	wrongLetters[3] = 'n'
	wide := fileOf(1, 256, many(80, 0, 0).Records...) // its count has two bytes
	for i, d := range []api.Drive{
		{}, firm([]byte("moor"), []byte("moor")), firm(fileOf(1, 0)[:9], nil), firm(wrongLetters, nil), firm(fileOf(0, 0, a), fileOf(1000000001, 0)),
		firm(fileOf(1, 1), fileOf(2, 2, a)), firm(wide, nil), firm(fileOf(1, 2, a)[:20], nil), firm(fileOf(1, 2, a, told(100001, a)), nil),
		firm(fileOf(1, 0, a, a), nil), firm(fileOf(1, 0, a, told(9, a)), nil), firm(fileOf(1, 0), fileOf(2, 0, a, x(), a)),
		firm(fileOf(1, 0, many(81, 0, 0).Records...), nil), firm(fileOf(3, 0, many(81, 0, 0).Records...), fileOf(2, 0)),
	} {
		if o, m, e := register.Open(d); e != api.ErrFile || !same(o, api.Drive{}) || !same(m, api.Memory{}) {
			t.Error(i, o, m, e)
		}
	}
}

func TestAppend(t *testing.T) {
	// The file may have its records in any order, and some firm bytes.
	d, m, e := register.Append(driveOf(nil, 0, fileOf(7, 1, z(), x()), 12), memoryOf(1, 7, x(), z()), y())
	if e != api.OK || !same(d, driveOf(nil, 0, fileOf(7, 1, z(), x(), y()), 12)) || !same(m, memoryOf(1, 7, x(), y(), z())) {
		t.Error(d, m, e)
	}
	for _, r := range []api.Record{x(), y(), z()} {
		again, n, e := register.Append(d, m, r)
		if e != api.OK || !same(again, d) || !same(n, m) {
			t.Error(again, n, e)
		}
	}
	l := many(80, 0, 0).Records
	full, memory := firm(fileOf(1, 0, l...), nil), memoryOf(0, 1, l...)
	for _, c := range []struct {
		d    api.Drive
		m    api.Memory
		r    api.Record
		want api.Errno
	}{
		{d, m, api.Record{}, api.ErrRecord}, {d, m, told(100001, x()), api.ErrRecord}, {d, m, told(7, x()), api.ErrTwo},
		{full, memory, x(), api.ErrLong}, {full, memory, told(9, l[3]), api.ErrTwo}, {full, memory, api.Record{}, api.ErrRecord}, {full, memory, l[3], api.OK},
		{full, memoryOf(0, 2, l...), api.Record{}, api.ErrDrive},
	} {
		d, m, e := register.Append(c.d, c.m, c.r)
		if e != c.want || e != api.OK && !(same(d, api.Drive{}) && same(m, api.Memory{})) {
			t.Error(c, d, m, e)
		}
	}
	last := firm(fileOf(1000000000, 0), nil)
	if d, m, e := register.Append(last, memoryOf(0, 1000000000), x()); e != api.OK || len(d.Files[0].Bytes) != 39 || m.Generation != 1000000000 {
		t.Error(d, m, e)
	}
}

// TestPackOrder: a packed file has its records by their places, and says how many.
func TestPackOrder(t *testing.T) {
	way, m, e := register.Pack(driveOf(fileOf(256, 0, z(), y(), x()), 10, nil, 0), memoryOf(0, 256, x(), y(), z()))
	old, next := fileOf(256, 0, z(), y(), x()), fileOf(257, 3, x(), y(), z())
	if e != api.OK || !same(m, memoryOf(1, 257, x(), y(), z())) || !same(way, []api.Drive{firm(old, nil), driveOf(old, len(old), next, 0), firm(old, next), firm(nil, next)}) {
		t.Error(way, m, e)
	}
	for generation, want := range map[int]api.Errno{999999999: api.OK, 1000000000: api.ErrDrive} {
		way, m, e := register.Pack(firm(fileOf(generation, 0), nil), memoryOf(0, generation))
		if e != want || e == api.OK && m.Generation != 1000000000 || e != api.OK && (len(way) != 0 || !same(m, api.Memory{})) {
			t.Error(generation, way, m, e)
		}
	}
}

// A mismatch is a drive and a memory.
type mismatch struct {
	name string
	d    api.Drive
	m    api.Memory
}

// mismatches are memories that are not those of their drives.
func mismatches() []mismatch {
	file := fileOf(2, 1, x(), y())
	d, m := firm(file, nil), memoryOf(0, 2, x(), y())
	turned := m
	turned.Register = registerOf(y(), x())
	l := []mismatch{
		{"no head", firm(nil, nil), memoryOf(0, 1)},
		{"zero", api.Drive{}, api.Memory{}},
		{"file 1", d, memoryOf(1, 2, x(), y())},
		{"file 2", d, memoryOf(2, 2, x(), y())},
		{"file -1", d, memoryOf(-1, 2, x(), y())},
		{"far file", d, memoryOf(math.MaxInt, 2, x(), y())},
		{"generation", d, memoryOf(0, 1, x(), y())},
		{"greater generation", d, memoryOf(0, 3, x(), y())},
		{"no generation", firm(fileOf(0, 0), nil), memoryOf(0, 0)},
		{"last generation", firm(fileOf(1000000001, 0), nil), memoryOf(0, 1000000001)},
		{"count", firm(fileOf(2, 3, x(), y()), nil), m},
		{"a byte behind", firm(append(slices.Clone(file), 0), nil), m},
		{"a byte less", firm(file[:len(file)-1], nil), m},
		{"a frame less", firm(fileOf(2, 1, x()), nil), m},
		{"a frame more", firm(fileOf(2, 1, x(), y(), z()), nil), m},
		{"a frame twice", firm(fileOf(2, 1, x(), y(), x()), nil), m},
		{"two of one place", firm(fileOf(2, 1, x(), y(), told(9, x())), nil), m},
		{"another one", firm(fileOf(2, 1, x(), told(10, y())), nil), m},
		{"an invalid one", firm(fileOf(2, 1, x(), y(), told(100001, z())), nil), m},
		{"the other file", firm(file, []byte{0}), m},
		{"two files", firm(file, file), m},
		{"a register out of order", d, turned},
		{"a register twice", firm(fileOf(2, 0, x(), x()), nil), memoryOf(0, 2, x(), x())},
		{"too many", firm(fileOf(2, 0, many(81, 0, 0).Records...), nil), memoryOf(0, 2, many(81, 0, 0).Records...)},
		{"firm", driveOf(file, len(file)+1, nil, 0), m},
		{"not firm", driveOf(file, -1, nil, 0), m},
		{"firm, of the other file", driveOf(file, 10, nil, 1), m},
	}
	for i, d := range invalidDrives() {
		l = append(l, mismatch{text(i), d, memoryOf(0, 1)})
	}
	return l
}

func TestMismatches(t *testing.T) {
	for _, c := range mismatches() {
		if d, m, e := register.Append(c.d, c.m, x()); e != api.ErrDrive || !same(d, api.Drive{}) || !same(m, api.Memory{}) {
			t.Error(c.name, d, m, e)
		}
		if way, m, e := register.Pack(c.d, c.m); e != api.ErrDrive || len(way) != 0 || !same(m, api.Memory{}) {
			t.Error(c.name, way, m, e)
		}
	}
	// A list of bytes may be empty instead of nil.
	empty := driveOf(fileOf(1, 0), 3, []byte{}, 0)
	if _, _, e := register.Pack(empty, api.Memory{Register: api.Register{Records: []api.Record{}}, Generation: 1}); e != api.OK {
		t.Error(e)
	}
}

// A journal is a drive whose history is known.
type journal struct {
	api.Drive
	api.Memory
	safe, since []api.Record // at the last Sync, Pack or Open, and appended behind it
}

// synced has nothing that is not safe.
func (j *journal) synced() { j.safe, j.since = append(j.safe, j.since...), nil }

// left is how many of the records since then stand whole in so many of the
// bytes that were appended.
func (j *journal) left(kept int) int {
	for i, r := range j.since {
		if kept -= 1 + len(bytesOf(r)); kept < 0 {
			return i
		}
	}
	return len(j.since)
}

// tellCrashes asks for all that a crash may leave.
func (j *journal) tellCrashes(t *testing.T) {
	t.Helper()
	file := j.Files[j.File]
	for kept := range len(file.Bytes) - file.Firm + 1 {
		lengths := [2]int{7, 7}
		lengths[j.File] = kept
		d, m, e := register.Open(register.Crash(j.Drive, lengths))
		want := slices.Concat(j.safe, j.since[:j.left(kept)])
		if e != api.OK || m.File != j.File || m.Generation != j.Generation || !slices.Equal(m.Register.Records, inOrder(want)) {
			t.Fatal(kept, j, m, e)
		}
		if _, _, e := register.Append(d, m, happening(8, 9999, 1, 1, "")); e != api.OK && len(want) < 80 {
			t.Fatal(kept, d, m, e)
		}
	}
}

// tellPack asks for all that a crash may leave on the way of a pack.
func (j *journal) tellPack(t *testing.T) {
	t.Helper()
	way, packed, e := register.Pack(j.Drive, j.Memory)
	if e != api.OK || len(way) != 4 {
		t.Fatal(j, e)
	}
	all := inOrder(slices.Concat(j.safe, j.since))
	for step, d := range way {
		a := len(d.Files[0].Bytes) - d.Files[0].Firm
		b := len(d.Files[1].Bytes) - d.Files[1].Firm
		for kept := range max(a, b) + 1 {
			_, m, e := register.Open(register.Crash(d, [2]int{kept, kept}))
			if e != api.OK || !slices.Equal(m.Register.Records, all) {
				t.Fatal(step, kept, j, m, e)
			}
		}
	}
	j.Drive, j.Memory = way[3], packed
	j.synced()
}

// TestPower is P7.4: whatever a crash leaves, all is there that was there at
// the last Sync, Pack or Open, and besides a beginning of what was appended.
func TestPower(t *testing.T) {
	for seed := range int64(12) {
		m := newMaker(seed, 30)
		j := &journal{}
		j.Drive, j.Memory = register.New()
		next := map[int]int{}
		for range 60 {
			switch m.Intn(8) {
			case 0:
				j.Drive = register.Sync(j.Drive)
				j.synced()
			case 1:
				j.tellPack(t)
			case 2:
				kept := m.Intn(1000)
				left := j.left(kept % (len(j.Files[j.File].Bytes) - j.Files[j.File].Firm + 1))
				lengths := [2]int{m.Intn(9), m.Intn(9)}
				lengths[j.File] = kept
				var e api.Errno
				j.Drive, j.Memory, e = register.Open(register.Crash(j.Drive, lengths))
				mustHold(t, e, j)
				j.since = j.since[:left]
				j.synced()
			default:
				office := m.Intn(9)
				r := m.record(place(office, next[office]))
				next[office]++
				d, memory, e := register.Append(j.Drive, j.Memory, r)
				mustHold(t, e, r)
				j.Drive, j.Memory = d, memory
				j.since = append(j.since, r)
			}
			j.tellCrashes(t)
		}
	}
}

// TestAppendedBytes: what is firm stays as it is, and nothing else is written.
func TestAppendedBytes(t *testing.T) {
	registers(t, 61, 60, func(m maker, g api.Register) {
		d, memory := register.New()
		records := m.shuffled(g.Records)
		for i, r := range records {
			var e api.Errno
			firm := d.Files[0].Firm
			d, memory, e = register.Append(d, memory, r)
			if e != api.OK || !bytes.Equal(d.Files[0].Bytes, fileOf(1, 0, records[:i+1]...)) || d.Files[0].Firm != firm || len(d.Files[1].Bytes) != 0 {
				t.Fatal(records, i, d, e)
			}
			if !same(memory, memoryOf(0, 1, records[:i+1]...)) {
				t.Fatal(records, i, memory)
			}
			if m.Intn(4) == 0 {
				d = register.Sync(d)
			}
		}
	})
}
