package life_test

import (
	"fmt"
	"strings"
	"testing"

	"moorsom/api"
	"moorsom/life"
)

// numbersOf are the numbers of an event's text, as the chapter lists them.
func numbersOf(x api.Event) []int {
	s := x.Space
	space := append([]int{s.Id, len(s.Stations)}, s.Stations...)
	space = append(append(space, len(s.Waters)), s.Waters...)
	space = append(space, s.Fair.Along, s.Fair.Up)
	r, c := x.Reading, x.Compare
	switch x.Kind {
	case 1:
		return append([]int{x.Num}, space...)
	case 2:
		return append([]int{x.Num, x.Opening, x.Crew}, space...)
	case 3:
		return []int{x.Room}
	case 4, 5, 6:
		return []int{x.Room, x.Num}
	case 7:
		return []int{x.Num}
	case 8:
		return []int{x.Room, r.Station, r.Water, r.Value, r.Tolerance, r.Tape}
	case 9:
		return []int{c.Tape, c.From, c.To, c.Lo, c.Hi}
	}
	return nil
}

// recordOf is the record of an event, as the chapter says it.
func recordOf(x api.Event) api.Record {
	r := api.Record{At: x.At, Kind: x.Kind + 1, Ship: x.Ship, Day: x.Day, Known: x.Known, Of: x.Of}
	if x.Kind == 10 {
		r.Kind = 0
	}
	r.Text = strings.Trim(fmt.Sprint(numbersOf(x)), "[]")
	return r
}

// mustBeRecord is P5.7 for an event.
func mustBeRecord(t *testing.T, x api.Event) {
	t.Helper()
	r, e := life.Write(x)
	if e != api.OK || r != recordOf(x) {
		t.Fatal(x, r, e)
	}
	if y, e := life.Read(r); e != api.OK || !same(x, y) {
		t.Fatal(x, r, y, e)
	}
}

func TestRecordExamples(t *testing.T) {
	for i, want := range []api.Record{
		{Kind: 2, Ship: 7, Day: 10, Known: 10, Text: "2 100 2 0 1000 2 0 1000 100 200"},
		{Kind: 3, Ship: 7, Day: 20, Known: 20, Text: "3 0 4 5 2 0 1000 2 0 1000 100 200"},
		{Kind: 6, Ship: 7, Day: 30, Known: 30, Text: "5 500"},
		{Kind: 9, Ship: 7, Day: 25, Known: 40, Text: "5 0 0 100 10 1"},
		{Kind: 4, Ship: 7, Day: 50, Known: 50, Text: "5"},
		{Kind: 0, Known: 60, Of: place(0, 4)},
		{Kind: 10, Ship: 7, Day: 35, Known: 45, Text: "1 20 30 5 15"},
	} {
		want.At = place(0, i)
		if r, e := life.Write(example()[i]); e != api.OK || r != want {
			t.Error(r, want, e)
		}
		if x, e := life.Read(want); e != api.OK || !same(x, example()[i]) {
			t.Error(want, x, e)
		}
	}
	below := tape(1, 0, 5, -30, -2)
	if r, e := life.Write(put(below, place(0, 0))); e != api.OK || r.Text != "1 0 5 -30 -2" {
		t.Error(r, e)
	}
}

// TestRecords is P5.7 for events of all kinds.
func TestRecords(t *testing.T) {
	for _, x := range plain() {
		mustBeRecord(t, x)
		for _, p := range append(common(), named()...) {
			for _, n := range p.in[x.Kind] {
				y := x
				p.set(&y, n)
				mustBeRecord(t, y)
			}
		}
	}
	lists(t, 11, 100, func(m maker, l []api.Event) {
		for _, x := range l {
			mustBeRecord(t, x)
		}
	})
}

// TestLongestText: the text of each event fits into a record.
func TestLongestText(t *testing.T) {
	x := room(1, 999)
	x.Num, x.Opening, x.Crew, x.Space.Fair = 9, 1000, 999, api.Fair{Along: 100000, Up: 100000}
	x.Space.Stations = []int{99992, 99993, 99994, 99995, 99996, 99997, 99998, 99999, 100000}
	x.Space.Waters = []int{14994, 14995, 14996, 14997, 14998, 14999, 15000}
	x = put(x, place(8, 9999))
	mustBeRecord(t, x)
	if r, _ := life.Write(x); len(r.Text) > api.MaxText {
		t.Error(r)
	}
}

// mustBeNone asks for the event of a record that is that of none.
func mustBeNone(t *testing.T, r api.Record) {
	t.Helper()
	if x, e := life.Read(r); e != api.ErrEvent || !same(x, api.Event{}) {
		t.Errorf("%q: %v %d", r.Text, x, e)
	}
}

// TestOtherTexts: a text of another form is that of no event.
func TestOtherTexts(t *testing.T) {
	for _, x := range plain() {
		right := recordOf(x)
		texts := []string{
			right.Text + " ", " " + right.Text, right.Text + " 1", right.Text + "\n", "\t" + right.Text, right.Text + "\x00",
			right.Text + "1 ", "x" + right.Text, "-", "x", " ", "1 x", strings.Repeat("1 ", 99), strings.Repeat("1", 200), strings.Repeat("9 ", 5000000),
			"9 9999999999999 1 2 3", "1 1 1 1 -5", "1 1 99999999999", "1 1 1 1 99999999999", "1 1 -99999999999", "99999999999999999999999",
		}
		if x.Kind != api.EvWithdraw {
			words := strings.Split(right.Text, " ")
			texts = append(texts, "", strings.Join(words[1:], " "), strings.Join(words[:len(words)-1], " "), "-"+right.Text, "+"+right.Text, "0"+right.Text)
			for i := range words[1:] {
				texts = append(texts, strings.Join(words[:i+1], " ")+"  "+strings.Join(words[i+1:], " "),
					strings.Join(words[:i+1], " ")+" 0"+strings.Join(words[i+1:], " "), strings.Join(words[:i+1], " ")+" +"+strings.Join(words[i+1:], " "))
			}
		}
		for _, text := range texts {
			r := right
			r.Text = text
			mustBeNone(t, r)
		}
	}
	for _, text := range []string{"1 20 30 -0 15", "1 20 30 5 -0", "-1 20 30 5 15", "1 20 30 15 5"} {
		r := recordOf(plain()[8])
		r.Text = text
		mustBeNone(t, r)
	}
}

// TestOtherRecords: what a record of an event does not have is zero or empty,
// and the event that it tells is valid.
func TestOtherRecords(t *testing.T) {
	for _, x := range plain() {
		right := recordOf(x)
		for _, set := range []func(r *api.Record, n int){
			func(r *api.Record, n int) { r.To = n }, func(r *api.Record, n int) { r.Until = n },
			func(r *api.Record, n int) { r.Of.Office -= 4 * n }, func(r *api.Record, n int) { r.Of.Seq += 10 * n },
			func(r *api.Record, n int) { r.At.Seq = -n }, func(r *api.Record, n int) { r.At.Office += 8 * n },
			func(r *api.Record, n int) { r.Kind = 10 + n }, func(r *api.Record, n int) { r.Kind = -n },
			func(r *api.Record, n int) { r.Known = -n }, func(r *api.Record, n int) { r.Ship -= 1000 * n }, func(r *api.Record, n int) { r.Day -= 100 * n },
		} {
			for _, n := range []int{1, 2, 20, 999} {
				r := right
				set(&r, n)
				mustBeNone(t, r)
			}
		}
		lease := right
		lease.Kind = api.RecLease
		mustBeNone(t, lease)
	}
	mustBeNone(t, api.Record{})
	mustBeNone(t, api.Record{Kind: api.RecLease, Ship: 9, Until: 5})
}

// TestReadAgain: what Read accepts is what Write writes.
func TestReadAgain(t *testing.T) {
	m := newMaker(12, 12)
	words := []string{"0", "1", "2", "3", "5", "7", "9", "10", "100", "1000", "20000", "-1", "-20", "00", "x", ""}
	read := map[int]int{}
	for range 60000 {
		r := api.Record{At: place(0, 5), Kind: m.Intn(12), Ship: 7, Day: 20, Known: 20}
		if r.Kind == 0 && m.Intn(2) == 0 {
			r.Ship, r.Day, r.Of = 0, 0, place(0, m.Intn(7))
		}
		var text []string
		for range m.Intn(7) {
			text = append(text, words[m.Intn(len(words))])
		}
		r.Text = strings.Join(text, " ")
		x, e := life.Read(r)
		if e != api.OK && (e != api.ErrEvent || !same(x, api.Event{})) {
			t.Fatal(r, x, e)
		}
		if e == api.OK {
			mustHold(t, life.CheckEvent(x), r)
			if again := recordOf(x); again != r {
				t.Fatal(r, x, again)
			}
			read[r.Kind]++
		}
	}
	if len(read) < 7 {
		t.Error("too few kinds are read:", read)
	}
}
