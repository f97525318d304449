package desk_test

import (
	"fmt"
	"slices"
	"strings"
	"testing"

	"moorsom/api"
	"moorsom/desk"
	"moorsom/register"
)

// TestDocument are the examples of DOC.md, one behind the other.
func TestDocument(t *testing.T) {
	d := desk.New()
	tells(t, d, red, "ok")
	tells(t, d, build, "record 7 0")
	tells(t, d, room, "record 7 1")
	tells(t, d, "figures 7 7 20 20", "gross 0 40000", "net 0 20000")
	tells(t, d, read, "record 7 2")
	tells(t, d, "figures 7 7 20 30", "gross 0 2520", "net 0 1260")
	tells(t, d, tape, "record 7 3")
	tells(t, d, "figures 7 7 20 40", "gross 37 510", "net 18 255")
	tells(t, d, "passage 1 7 22 20 300", "ok")
	tells(t, d, "due 7 1 30", "0")
	tells(t, d, "due 7 1 40", "54")
	tells(t, d, "moved 7 7 45 7 2", "20 100000 2 37 510 18 255")
	tells(t, d, "withdraw 7 50 2", "record 7 4")
	tells(t, d, "ledger 7 7 60", "40 1 54", "50 1 -54")
	tells(t, d, "balance 7 7 60", "0 54")
	tells(t, d, "grant 7 7 2 0 100", "record 7 5")
	tells(t, d, "holder 7 7 22", "2")
	tells(t, d, "issue 7 7 22", "error 75")
	for _, line := range []string{"lines 1000 1200", "freeboard 500 100", "freeboard 1500 200", "leg 1 22 30 1000 1025 5 10"} {
		tells(t, d, line, "ok")
	}
	tells(t, d, "judge 7 7 22 40 150 160", "maybe")
}

// played is the script of the chapter's example.
func played() []string {
	return []string{
		red, build, room, read, "figures 7 7 20 20", "figures 7 7 20 30", "grant 7 7 2 0 100", "issue 7 7 20", "holder 7 7 20",
		"offer 7 2", "deliver 0", "deliver 0", "deliver 0", "deliver 0", "issue 2 7 20", "withdraw 7 40 3", "lineage 7 7 20 30", "counts",
	}
}

// TestChapter is the script of the chapter's example.
func TestChapter(t *testing.T) {
	told, line, e := desk.Run(script(played()...))
	want := script(
		"ok", "record 7 0", "record 7 1", "record 7 2", "gross 0 40000", "net 0 20000", "gross 0 2520", "net 0 1260", "record 7 3", "error 75", "2",
		"messages 4", "messages 4", "messages 4", "messages 4", "messages 4", "more 10 19 2 0 0 0 0", "more 20 100000 2 0 40000 0 20000",
		"gone 10 100000 2 0 0 0 0", "record 7 4", "7 0", "7 1", "7 2",
		"records 0", "records 0", "records 4", "records 0", "records 0", "records 0", "records 0", "records 5", "records 0")
	if told != want || line != 0 || e != api.OK {
		t.Error(told, line, e)
	}
	transcript(t, played()...)
}

// TestNew is P10.2: a new desk, and one that is nil.
func TestNew(t *testing.T) {
	d := desk.New()
	var none *desk.Desk
	for n := range 9 {
		o, e := register.NewOffice(n)
		mustHold(t, e)
		if !same(d.Office(n), o) || !same(d.Files(n), api.Files{}) {
			t.Error(n, d.Office(n), d.Files(n))
		}
		if !same(none.Office(n), api.Office{}) || !same(none.Files(n), api.Files{}) {
			t.Error(n, none.Office(n), none.Files(n))
		}
	}
	if l, r := d.Lines(); !same(l, api.Lines{}) || !same(r, api.Route{}) {
		t.Error(l, r)
	}
	if l, r := none.Lines(); !same(l, api.Lines{}) || !same(r, api.Route{}) {
		t.Error(l, r)
	}
	for _, line := range slices.Concat(voyage(), []string{"clear", "counts", "deliver 0", "pack 9"}) {
		tells(t, none, line, "error 100")
	}
	if got := none.Do(api.Command{}); !same(got, []string{"error 100"}) {
		t.Error(got)
	}
	tells(t, d, "deliver 0", "error 3")
	tells(t, d, "counts", slices.Repeat([]string{"records 0"}, 9)...)
}

// TestNoOffice is P10.2: what there is of an office that is none.
func TestNoOffice(t *testing.T) {
	d := deskOf(t, voyage()...)
	for _, n := range []int{-1, 9, 1 << 60, -1 << 63} {
		if !same(d.Office(n), api.Office{}) || !same(d.Files(n), api.Files{}) {
			t.Error(n, d.Office(n), d.Files(n))
		}
	}
}

// TestFiles is P10.2: the files of an office, without events if these are no
// valid list.
func TestFiles(t *testing.T) {
	d := deskOf(t, voyage()...)
	f := d.Files(7)
	// The lease is none of the events.
	if len(f.Events) != 9 || len(f.Laws) != 1 || f.Laws[0].Flag != 2 || !same(f.Passages, []api.Passage{{Id: 1, Ship: 7, Day: 22, Known: 20, Rate: 300}}) {
		t.Error(f)
	}
	if g := d.Files(2); len(g.Events) != 0 || !same(g.Laws, f.Laws) || !same(g.Passages, f.Passages) {
		t.Error(g)
	}
	for range 19 {
		ask(t, d, "tape 7 7 0 100 9 0 0 0 0")
	}
	if g := d.Files(7); len(g.Events) != 0 || !same(g.Laws, f.Laws) || !same(g.Passages, f.Passages) {
		t.Error(g)
	}
	tells(t, d, "figures 7 7 22 40", "error 51")
	tells(t, d, "issue 7 7 22", "error 51")
}

// spoilAll changes all that a desk has handed out.
func spoilAll(d *desk.Desk) {
	o, f := d.Office(7), d.Files(7)
	l, r := d.Lines()
	clear(o.Drive.Files[0].Bytes)
	clear(o.Drive.Files[1].Bytes)
	clear(o.Memory.Register.Records)
	for _, known := range o.Known {
		clear(known)
	}
	for _, x := range f.Events {
		clear(x.Space.Stations)
		clear(x.Space.Waters)
	}
	clear(f.Events)
	for _, law := range f.Laws {
		for _, v := range law.Code.Versions {
			for _, p := range v.Puts {
				clear(p.Tests)
			}
			clear(v.Puts)
			for _, lines := range v.Lines {
				for _, pieces := range lines {
					clear(pieces)
				}
			}
		}
		clear(law.Code.Versions)
	}
	clear(f.Laws)
	clear(f.Passages)
	clear(l.Table)
	clear(l.Seasons)
	clear(r.Legs)
}

// TestMemory is R4: what a desk hands out shares no memory with it, nor with
// what it is handed.
func TestMemory(t *testing.T) {
	tested := strings.Replace(red, "put 1", "put 0 kind = 9\\nput 1", 1)
	d := deskOf(t, slices.Concat(voyage(), []string{tested, "season 2 300 60 60", "offer 7 2", "deliver 0", "deliver 9"})...)
	before := shown(d)
	spoilAll(d)
	if after := shown(d); after != before {
		t.Error(after)
	}
	c := commandOf(t, build)
	copied := commandOf(t, build)
	answer := d.Do(c)
	if !same(c, copied) {
		t.Error(c)
	}
	before = shown(d)
	clear(c.Args)
	clear(c.Texts)
	clear(answer)
	if after := shown(d); after != before {
		t.Error(after)
	}
}

// arrivals says which messages are under way, in order: each is delivered to
// the office 2, whose register tells it by its last record.
func arrivals(t *testing.T, d *desk.Desk, many int) []int {
	t.Helper()
	var seqs []int
	for range many {
		before := d.Office(2).Memory.Register.Records
		tells(t, d, "deliver 0", fmt.Sprint("messages ", many))
		for _, r := range d.Office(2).Memory.Register.Records {
			if !slices.Contains(before, r) {
				seqs = append(seqs, r.At.Seq)
			}
		}
	}
	return seqs
}

// TestWires is P10.2: which message a command means, and where messages are
// put.
func TestWires(t *testing.T) {
	start := func() *desk.Desk {
		d := deskOf(t, red, build, room, read, tape)
		tells(t, d, "offer 7 2", "messages 4")
		return d
	}
	for line, want := range map[string][]int{
		"lose 0":              {1, 2, 3},
		"lose 2":              {0, 1, 3},
		"lose 4":              {1, 2, 3},
		"lose 7":              {0, 1, 2},
		"lose -1":             {0, 1, 2},
		"lose -4":             {1, 2, 3},
		"lose -6":             {0, 1, 3},
		"lose 1000000000000":  {1, 2, 3},
		"lose -1000000000000": {1, 2, 3},
		"lose -999999999999":  {0, 2, 3},
	} {
		d := start()
		tells(t, d, line, "messages 3")
		if got := arrivals(t, d, 3); !same(got, want) {
			t.Error(line, got, want)
		}
	}
	d := start()
	tells(t, d, "double 1", "messages 5")
	tells(t, d, "lose 1", "messages 4")
	if got := arrivals(t, d, 4); !same(got, []int{0, 2, 3, 1}) {
		t.Error(got)
	}
	// What is under way now are the acknowledgements.
	if o := d.Office(7); len(o.Known[2]) != 0 {
		t.Error(o.Known)
	}
	tells(t, d, "deliver -2", "messages 3")
	if o := d.Office(7); !same(o.Known[2], []api.Place{place(7, 3)}) {
		t.Error(o.Known)
	}
	tells(t, d, "offer 7 2", "messages 6")
}

// TestNoWires is P10.2: there are no messages.
func TestNoWires(t *testing.T) {
	d := deskOf(t, red, build)
	for _, line := range []string{"deliver 0", "lose 5", "double -1"} {
		tells(t, d, line, "error 3")
	}
	tells(t, d, "offer 2 7", "messages 0")
	tells(t, d, "offer 7 2", "messages 1")
	tells(t, d, "lose 9", "messages 0")
	tells(t, d, "double 0", "error 3")
}

// TestManyWires is P10.2 and P10.5: at most MaxWires messages are under way;
// what is refused changes nothing.
func TestManyWires(t *testing.T) {
	d := deskOf(t, voyage()...)
	for i := range 7 {
		tells(t, d, "offer 7 2", fmt.Sprint("messages ", 10*(i+1)))
	}
	ask(t, d, "flag 7 7 90 90 2")
	before := shown(d) // the last record is not firm
	tells(t, d, "offer 7 2", "error 2")
	if shown(d) != before {
		t.Error(shown(d))
	}
	for i := range 10 {
		tells(t, d, "double 0", fmt.Sprint("messages ", 71+i))
	}
	tells(t, d, "double 0", "error 2")
	tells(t, d, "offer 2 7", "messages 80")
	tells(t, d, "deliver 0", "messages 80")
	tells(t, d, "lose 0", "messages 79")
	tells(t, d, "offer 7 2", "error 2")
	tells(t, d, "double 0", "messages 80")
}

// TestRefusedMessage is P10.5: a message that an office refuses is gone.
func TestRefusedMessage(t *testing.T) {
	d := deskOf(t, slices.Concat([]string{red, build, room, "offer 7 2"}, times(80, "flag 2 7 50 50 2"))...)
	before := shown(d)
	tells(t, d, "deliver 1", "error 2")
	if shown(d) != before {
		t.Error(shown(d))
	}
	tells(t, d, "double 0", "messages 2")
	tells(t, d, "deliver 0", "error 2")
	tells(t, d, "deliver 0", "error 2")
	tells(t, d, "deliver 0", "error 3")
}

// TestLostRecord is P10.2: records that were not firm are lost, and so is the
// acknowledgement of one that its office does not have any more.
func TestLostRecord(t *testing.T) {
	d := deskOf(t, red, build, room)
	tells(t, d, "restart 7 0 0", "records 0")
	tells(t, d, build, "record 7 0")
	tells(t, d, room, "record 7 1")
	tells(t, d, "pack 7", "records 2")
	if o := d.Office(7); o.Memory.Generation != 2 || o.Memory.File != 1 || len(o.Drive.Files[0].Bytes) != 0 {
		t.Error(o)
	}
	tells(t, d, read, "record 7 2")
	tells(t, d, tape, "record 7 3")
	tells(t, d, "restart 7 5 -1", "records 4") // all of the other bytes are kept
	tells(t, d, "withdraw 7 50 2", "record 7 4")
	tells(t, d, "restart 7 -1 0", "records 4")
	tells(t, d, "withdraw 7 50 2", "record 7 4")
}

// TestNoMass is P10.2 for `sure`: there is no mass with which all hulls keep
// the mark.
func TestNoMass(t *testing.T) {
	d := deskOf(t, slices.Concat([]string{`build 7 7 10 10 2 100 100000 100000 "0 10 40" "0 1000"`}, marks())...)
	tells(t, d, "sure 7 7 22 40", "error 3")
	if r := volume(t, surveyAt(t, d, 7, 100, 22, 40)); r.Lo >= 0 {
		t.Error(r)
	}
}

// TestForms are forms of answers that the examples do not show.
func TestForms(t *testing.T) {
	d := deskOf(t, voyage()...)
	tells(t, d, "state 7 7 22 40", "flag 2", "hull 100 4", "room 5 3 0 4 37 510")
	tells(t, d, "table 7 7 22 40", "0 0", "190 395")
	tells(t, d, "judge 7 7 22 40 150 160", "yes")
	tells(t, d, "judge 7 7 22 40 180 200", "maybe")
	tells(t, d, "judge 7 7 22 40 500 500", "no")
	tells(t, d, "sure 7 7 22 40", "190")
	tells(t, d, "certs 7 7 40", "10 19 2 0 0 0 0", "20 100000 2 37 510 18 255")
	tells(t, d, "certs 7 8 40", "none")
	tells(t, d, "ledger 7 8 40", "none")
	tells(t, d, "balance 7 8 40", "0 0")
	tells(t, d, "moved 7 7 40 7 6", "none")
	tells(t, d, "issue 7 7 29", "none")
	tells(t, d, "issue 7 7 30", "more 20 100000 2 37 510 18 255", "gone 20 100000 2 0 40000 0 20000")
	tells(t, d, "lineage 7 7 15 40", "7 0")
	tells(t, d, "holder 7 7 100", "7")
	tells(t, d, "free 7 7 0 100", "none")
	tells(t, d, "free 7 7 100 102", "101 102")
	tells(t, d, "fewest 7 7 22 40 5 474", "pick", "width 306180000000")
	ask(t, d, "clear")
	tells(t, d, "fewest 7 7 22 40 5 472", "error 94")
	ask(t, d, "read 7 7 20 50 5 0 0 9000 10 1")
	tells(t, d, "clash 7 7 20 50 5", "70003 70011")
	// A base below 0 makes figures below 0.
	tells(t, d, `code 2 "code low\nversion 0\ngross 1 0 -1500 0\n"`, "ok")
	tells(t, d, "figures 7 7 15 40", "gross -2 -2", "net 0 0")
	tells(t, d, `code 1 "code low\nversion 0\n"`, "ok")
	if l := d.Files(0).Laws; len(l) != 2 || l[0].Flag != 1 || l[1].Flag != 2 || l[1].Code.Name != "low" {
		t.Error(l)
	}
}
