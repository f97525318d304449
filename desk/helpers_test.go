package desk_test

import (
	"fmt"
	"slices"
	"strings"
	"testing"

	"moorsom/api"
	"moorsom/desk"
	"moorsom/life"
	"moorsom/offsets"
)

// text is a value as text, in which nil and empty lists are the same.
func text(a any) string { return fmt.Sprintf("%+v", a) }

// same holds values against each other.
func same(a, b any) bool { return text(a) == text(b) }

// mustHold fails a test if an error is not OK.
func mustHold(t *testing.T, e api.Errno, what ...any) {
	t.Helper()
	if e != api.OK {
		t.Fatal(append(what, e)...)
	}
}

func place(office, seq int) api.Place { return api.Place{Office: office, Seq: seq} }

// commandOf is the command of a line.
func commandOf(t *testing.T, line string) api.Command {
	t.Helper()
	c, at, e := desk.Parse(line)
	mustHold(t, e, line, at)
	return c
}

// ask does a line at a desk.
func ask(t *testing.T, d *desk.Desk, line string) []string {
	t.Helper()
	return d.Do(commandOf(t, line))
}

// tells does a line, and holds the answer against the lines that are due.
func tells(t *testing.T, d *desk.Desk, line string, due ...string) {
	t.Helper()
	if got := ask(t, d, line); !same(got, due) {
		t.Errorf("%s\ntells %q\ndue   %q", line, got, due)
	}
}

// deskOf is a desk at which lines were done, none of which was refused.
func deskOf(t *testing.T, lines ...string) *desk.Desk {
	t.Helper()
	d := desk.New()
	for _, line := range lines {
		if got := ask(t, d, line); strings.HasPrefix(got[0], "error") {
			t.Fatal(line, got)
		}
	}
	return d
}

// script is a text of lines.
func script(lines ...string) string { return strings.Join(lines, "\n") + "\n" }

// transcript is that of lines, which is accepted.
func transcript(t *testing.T, lines ...string) string {
	t.Helper()
	paper, line, e := desk.Transcript(script(lines...))
	mustHold(t, e, lines, line)
	if line, e := desk.Accept(paper); line != 0 || e != api.OK {
		t.Fatal("not accepted:", line, e, paper)
	}
	return paper
}

// parted are the lines of a text that has whole lines.
func parted(text string) []string { return strings.Split(strings.TrimSuffix(text, "\n"), "\n") }

// Lines that many tests use: the ship 7, whose home is the office 7, has the
// hull 100 from the day 10 on and the room 5 from the day 20 on.

const (
	red   = `code 2 "code red\nversion 0\nput 1\ngross 1 0 0 1000\nnet 1 0 0 500\n"`
	build = `build 7 7 10 10 2 100 100 200 "0 1000" "0 1000"`
	room  = `room 7 7 20 20 3 0 4 5 100 200 "0 1000" "0 1000"`
	read  = `read 7 7 20 30 5 0 0 100 10 1`
	tape  = `tape 7 7 21 40 1 0 100 5 15`
	grant = `grant 7 7 7 0 100`
)

// marks are lines with which a route can be judged.
func marks() []string {
	return []string{"lines 1000 1200", "freeboard 500 100", "freeboard 1500 200", "leg 1 22 30 1000 1025 5 10", "leg 1 30 40 1000 1025 5 10"}
}

// hull are readings of the hull, known on the day 30: she has 190 to 395
// litres (chapter 3).
func hull() []string {
	return []string{
		"tape 7 7 10 30 1 0 100 5 15",
		"read 7 7 10 30 100 0 0 100 10 1", "read 7 7 10 30 100 0 1 200 10 1",
		"read 7 7 10 30 100 1 0 150 10 2", "read 7 7 10 30 100 1 1 300 10 2",
	}
}

// voyage are lines behind which all queries about the ship 7 tell something.
func voyage() []string {
	return slices.Concat([]string{red, build, room, read, tape, grant}, hull(), marks(), []string{
		"passage 1 7 22 20 300", "try 0 0 0", "try 1 0 0", "try 0 1 0", "try 1 1 0",
	})
}

// The survey V of chapter 3.

func space() api.Space {
	return api.Space{Id: 1, Source: 1, Stations: []int{0, 1000}, Waters: []int{0, 1000}, Fair: api.Fair{Along: 100, Up: 200}}
}

func survey() api.Survey {
	return api.Survey{
		Space: space(),
		Readings: []api.Reading{
			{Source: 11, Station: 0, Water: 0, Value: 100, Tolerance: 10, Tape: 1, Day: 5},
			{Source: 12, Station: 0, Water: 1, Value: 200, Tolerance: 10, Tape: 1, Day: 5},
			{Source: 13, Station: 1, Water: 0, Value: 150, Tolerance: 10, Tape: 2, Day: 5},
			{Source: 14, Station: 1, Water: 1, Value: 300, Tolerance: 10, Tape: 2, Day: 5},
		},
		Compares: []api.Compare{{Source: 21, Tape: 1, From: 0, To: 9, Lo: 5, Hi: 15}},
	}
}

// litres is the volume up to the second waterline.
func litres() api.What { return api.What{Kind: api.WhatLitres, Water: 1} }

// surveyAt is the survey of a room of the ship 7, as an office knows it.
func surveyAt(t *testing.T, d *desk.Desk, office, room, day, known int) api.Survey {
	t.Helper()
	v, e := life.Survey(d.Files(office).Events, 7, room, day, known)
	mustHold(t, e)
	return v
}

// volume is that of a survey up to its last waterline.
func volume(t *testing.T, v api.Survey) api.Range {
	t.Helper()
	r, e := offsets.Bound(v, whole(v))
	mustHold(t, e)
	return r
}

func whole(v api.Survey) api.What {
	return api.What{Kind: api.WhatLitres, Water: len(v.Space.Waters) - 1}
}
