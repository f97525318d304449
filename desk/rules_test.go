package desk_test

import (
	"fmt"
	"slices"
	"strings"
	"testing"

	"moorsom/api"
	"moorsom/desk"
)

// A trial is a command behind others.
type trial struct {
	ahead []string
	c     api.Command
}

// A fault is what is wrong with a trial, by the error that is told.
type fault struct {
	e     api.Errno
	spoil func(x *trial)
}

// arg is the fault of a number, by its index.
func arg(i, n int, e api.Errno) fault { return fault{e, func(x *trial) { x.c.Args[i] = n }} }

// lines is the fault of lines ahead.
func lines(e api.Errno, more ...string) fault {
	return fault{e, func(x *trial) { x.ahead = append(slices.Clone(x.ahead), more...) }}
}

// word is the fault of a text, by its index.
func word(i int, s string, e api.Errno) fault {
	return fault{e, func(x *trial) { x.c.Texts[i] = s }}
}

// times repeats a line.
func times(n int, line string) []string { return slices.Repeat([]string{line}, n) }

// wrongLineFaults: a command that is not right.
func wrongLineFaults() []fault {
	return []fault{
		{api.ErrLine, func(x *trial) { x.c.Args = append(x.c.Args, 0) }},
		{api.ErrLine, func(x *trial) { x.c.Texts = append(x.c.Texts, "") }},
		{api.ErrLine, func(x *trial) { x.c.Args[len(x.c.Args)-1] = 1000000000001 }},
	}
}

// ofOffice has the faults of a command of an office, and others behind them.
func ofOffice(more ...fault) []fault {
	return slices.Concat(wrongLineFaults(), []fault{arg(0, 9, api.ErrArg), arg(0, -1, api.ErrArg)}, more)
}

// tooManyTapes: the events of the office are no valid list.
func tooManyTapes() fault { return lines(api.ErrEvents, times(21, "tape 7 7 0 100 9 0 0 0 0")...) }

// ofEvents has the faults of a query about events.
func ofEvents(more ...fault) []fault {
	return ofOffice(slices.Concat([]fault{tooManyTapes()}, more)...)
}

// ofShip: the numbers 1 to last are SHIP and days.
func ofShip(last int, more ...fault) []fault {
	faults := []fault{arg(1, 0, api.ErrArg), arg(1, 1000, api.ErrArg)}
	for i := 2; i <= last; i++ {
		faults = append(faults, arg(i, -1, api.ErrDay), arg(i, 100001, api.ErrDay))
	}
	return append(faults, more...)
}

// ofState has the faults of what asks for the state of the ship 7.
func ofState(more ...fault) []fault {
	return ofEvents(ofShip(3, slices.Concat([]fault{arg(2, 9, api.ErrShip), arg(3, 9, api.ErrShip), arg(1, 8, api.ErrShip)}, more)...)...)
}

// ofSurvey has the faults of what asks for the survey of a room.
func ofSurvey(more ...fault) []fault {
	return ofState(slices.Concat([]fault{arg(4, 9, api.ErrWhich), arg(4, 0, api.ErrWhich)}, more)...)
}

// falseRoom, falseHull: readings that cannot all be right.
func falseRoom() fault { return lines(api.ErrFalse, "read 7 7 20 30 5 0 0 9000 10 1") }
func falseHull() fault { return lines(api.ErrFalse, "read 7 7 10 30 100 0 0 9000 10 1") }

// ofFigures has the faults of what asks for figures.
func ofFigures() []fault {
	return ofState(
		lines(api.ErrRule, "flag 7 7 21 30 4"), falseRoom(),
		lines(api.ErrForce, `code 2 "code red\nversion 90\n"`),
	)
}

// ofRoute has the faults of what judges a route.
func ofRoute(more ...fault) []fault {
	return ofState(slices.Concat([]fault{
		lines(api.ErrLines, "freeboard 1 1", "freeboard 1 1"), lines(api.ErrLines, "lines 1000 1200"),
		lines(api.ErrRoute, "leg 21 10 20 1000 1025 5 10"), lines(api.ErrRoute, "clear"),
	}, more)...)
}

// unmarked are the faults of lines that set no mark, and of a hull.
func unmarked() []fault {
	return []fault{
		lines(api.ErrNone, "lines 2000 1200", "freeboard 500 100", "freeboard 1500 200"),
		lines(api.ErrAbove, "season 1 1 365 1051"), falseHull(),
	}
}

// ofMass has the faults of what judges a mass.
func ofMass(more ...fault) []fault {
	mass := []fault{arg(4, -1, api.ErrMass), arg(4, 201, api.ErrMass)}
	return ofRoute(slices.Concat(mass, unmarked(), more)...)
}

// full: the register of the office 7 has no room for a record.
func full() fault {
	return fault{api.ErrLong, func(x *trial) {
		made := 0
		for _, line := range x.ahead {
			c, _, _ := desk.Parse(line)
			if c.Kind >= api.CmdBuild && c.Kind <= api.CmdGrant {
				made++
			}
		}
		x.ahead = append(slices.Clone(x.ahead), times(80-made, "flag 7 7 50 50 2")...)
	}}
}

// A command that may be done behind voyage, with what may be wrong, in the
// order of the errors.
type duty struct {
	line   string
	faults []fault
}

func setUpDuties() []duty {
	law := red[len("code 2"):]
	return []duty{
		{red, slices.Concat(wrongLineFaults()[:2], []fault{
			word(0, strings.Repeat(" ", 20001), api.ErrLong), word(0, "code", api.ErrText), word(0, "", api.ErrText),
			word(0, "code red", api.ErrCode), arg(0, 0, api.ErrArg), arg(0, 10, api.ErrArg),
			{api.ErrLong, func(x *trial) {
				x.ahead = append(slices.Clone(x.ahead), "code 3"+law, "code 5"+law, "code 7"+law)
				x.c.Args[0] = 4
			}},
		})},
		{"passage 2 7 22 20 300", slices.Concat(wrongLineFaults(), []fault{
			arg(0, 0, api.ErrPassage), arg(0, 100000, api.ErrPassage), arg(1, 0, api.ErrPassage), arg(2, -1, api.ErrPassage),
			arg(3, 100001, api.ErrPassage), arg(4, 10001, api.ErrPassage), arg(0, 1, api.ErrPassage),
			lines(api.ErrLong, "passage 3 7 0 0 0", "passage 4 7 0 0 0", "passage 5 7 0 0 0", "passage 6 7 0 0 0", "passage 7 7 0 0 0", "passage 8 7 0 0 0",
				"passage 9 7 0 0 0", "passage 10 7 0 0 0", "passage 11 7 0 0 0", "passage 12 7 0 0 0", "passage 13 7 0 0 0"),
		})},
		{"lines 0 -5", wrongLineFaults()},
		{"freeboard 0 -5", append(wrongLineFaults(), lines(api.ErrLong, times(18, "freeboard 5 5")...))},
		{"season -1 0 0 0", append(wrongLineFaults(), lines(api.ErrLong, times(30, "season 5 5 5 5")...))},
		{"leg 0 -5 0 0 0 0 0", append(wrongLineFaults(), lines(api.ErrLong, times(10, "leg 1 0 0 0 0 0 0")...))},
		{"try -1 50 2000", append(wrongLineFaults(), lines(api.ErrLong, times(4, "try 1 1 1")...))},
	}
}

// noRoom has the faults of a register that is full.
func noRoom(more ...fault) []fault { return ofOffice(append(more, full())...) }

// dated has the faults of an event's ship and days.
func dated(more ...fault) []fault {
	return noRoom(slices.Concat([]fault{
		arg(1, 0, api.ErrEvent), arg(1, 1000, api.ErrEvent), arg(2, -1, api.ErrEvent), arg(2, 100001, api.ErrEvent),
		arg(3, -1, api.ErrEvent), arg(3, 100001, api.ErrEvent),
	}, more)...)
}

// texts has the faults of a space's texts, ahead of those of its event.
func texts(more ...fault) []fault {
	words := strings.Repeat("1 ", 21)
	l := []fault{
		word(0, "0 1000\n", api.ErrText), word(0, "0 01000", api.ErrText), word(0, "0 -0", api.ErrText), word(0, "0 1000000000001", api.ErrText),
		word(0, "x", api.ErrText), word(0, "0,1000", api.ErrText), word(1, "+1", api.ErrText), word(1, words, api.ErrText), word(0, words, api.ErrText),
	}
	behind := slices.Concat([]fault{
		word(0, "", api.ErrEvent), word(0, "5", api.ErrEvent), word(0, "-5 1000", api.ErrEvent), word(1, "0 1000000000000", api.ErrEvent), word(1, words[2:], api.ErrEvent),
	}, more)
	faults := dated(behind...)
	at := len(ofOffice())
	return slices.Concat(faults[:at], l, faults[at:])
}

func recordDuties() []duty {
	return []duty{
		{`build 7 8 10 10 2 100 100 200 "0 1000" " 0  1000 "`, texts(
			arg(4, 0, api.ErrEvent), arg(4, 10, api.ErrEvent), arg(5, 0, api.ErrEvent), arg(5, 1000, api.ErrEvent),
			arg(6, 100001, api.ErrEvent), arg(7, -1, api.ErrEvent))},
		{`room 7 7 20 20 3 0 4 6 100 200 "0 1000" "0 1000"`, texts(
			arg(4, 0, api.ErrEvent), arg(4, 10, api.ErrEvent), arg(5, 1001, api.ErrEvent), arg(6, 1000, api.ErrEvent),
			arg(7, 0, api.ErrEvent), arg(8, -1, api.ErrEvent), arg(9, 100001, api.ErrEvent))},
		{"gone 7 7 40 40 5", dated(arg(4, 0, api.ErrEvent), arg(4, 1000, api.ErrEvent))},
		{"kind 7 7 40 40 5 1", dated(arg(4, 0, api.ErrEvent), arg(5, 0, api.ErrEvent), arg(5, 10, api.ErrEvent))},
		{"opening 7 7 40 40 5 1000", dated(arg(4, 0, api.ErrEvent), arg(5, -1, api.ErrEvent), arg(5, 1001, api.ErrEvent))},
		{"crew 7 7 40 40 5 999", dated(arg(4, 0, api.ErrEvent), arg(5, -1, api.ErrEvent), arg(5, 1000, api.ErrEvent))},
		{"flag 7 7 40 40 9", dated(arg(4, 0, api.ErrEvent), arg(4, 10, api.ErrEvent))},
		{"read 7 7 40 40 5 8 6 19000 1000 99", dated(arg(4, 0, api.ErrEvent), arg(5, 9, api.ErrEvent), arg(6, 7, api.ErrEvent),
			arg(7, 19001, api.ErrEvent), arg(8, 1001, api.ErrEvent), arg(9, 100, api.ErrEvent), arg(9, 0, api.ErrEvent))},
		{"tape 7 7 40 40 99 0 100000 -1000 1000", dated(arg(4, 100, api.ErrEvent), arg(5, -1, api.ErrEvent), arg(6, 100001, api.ErrEvent),
			arg(7, -1001, api.ErrEvent), arg(8, -1001, api.ErrEvent))},
		{"withdraw 7 40 3", noRoom(arg(1, -1, api.ErrEvent), arg(1, 100001, api.ErrEvent), arg(2, -1, api.ErrEvent), arg(2, 80, api.ErrEvent), arg(2, 9999, api.ErrEvent))},
		{"grant 7 7 2 200 300", noRoom(arg(1, 0, api.ErrArg), arg(2, 9, api.ErrArg), arg(3, -1, api.ErrDay), arg(4, 100001, api.ErrDay),
			arg(1, 8, api.ErrLease), arg(4, 199, api.ErrLease), arg(4, 600, api.ErrLease), arg(3, 100, api.ErrLease))},
	}
}

func exchangeDuties() []duty {
	return []duty{
		{"offer 7 2", slices.Concat(wrongLineFaults(), []fault{
			arg(0, 9, api.ErrArg), arg(0, -1, api.ErrArg), arg(1, 9, api.ErrArg), arg(1, 7, api.ErrArg), lines(api.ErrLong, times(8, "offer 7 0")...),
		})},
		{"restart 7 -5 5", ofOffice()},
		{"pack 7", ofOffice()},
	}
}

func filesDuties() []duty {
	return []duty{
		{"state 7 7 22 40", ofState(falseRoom())},
		{"figures 7 7 22 40", ofFigures()},
		{"certs 7 7 40", ofEvents(ofShip(2)...)},
		{"issue 7 7 22", ofOffice(ofShip(2, arg(2, 101, api.ErrLease), arg(0, 6, api.ErrLease))...)},
		{"due 7 1 40", ofEvents(arg(2, -1, api.ErrDay), arg(2, 100001, api.ErrDay), arg(1, 2, api.ErrNone), arg(1, -2, api.ErrNone))},
		{"ledger 7 7 40", ofEvents(ofShip(2)...)},
		{"balance 7 7 40", ofEvents(ofShip(2)...)},
		{"lineage 7 7 22 40", ofFigures()},
		{"moved 7 7 40 7 2", ofEvents(ofShip(2, arg(3, 8, api.ErrNone), arg(3, 9, api.ErrNone), arg(4, -1, api.ErrNone), arg(4, 79, api.ErrNone))...)},
	}
}

func measureDuties() []duty {
	return []duty{
		{"table 7 7 22 40", ofState(falseHull())},
		{"judge 7 7 22 40 150 160", ofMass()},
		{"sure 7 7 22 40", ofRoute(unmarked()...)},
		{"sinks 7 7 22 40 150 200", ofMass(arg(5, 190, api.ErrNone))},
		{"prove 7 7 22 40 5 1", ofSurvey(arg(5, 2, api.ErrArg), arg(5, -1, api.ErrArg), falseRoom())},
		{"fewest 7 7 22 40 5 100", ofSurvey(falseRoom(), arg(5, -1, api.ErrArg), arg(5, 1000000001, api.ErrArg),
			lines(api.ErrTry, "try 2 0 0"), lines(api.ErrWide, "clear", "try 0 0 1000"))},
		{"clash 7 7 22 40 5", ofSurvey(arg(4, 100, api.ErrNone))},
		{"holder 7 7 22", ofOffice(ofShip(2, arg(1, 8, api.ErrNone), arg(2, 101, api.ErrNone))...)},
		{"free 7 7 22 40", ofOffice(ofShip(3, arg(2, 41, api.ErrArg))...)},
	}
}

// shown is what a desk shows of itself.
func shown(d *desk.Desk) string {
	l, r := d.Lines()
	s := text(l) + text(r)
	for i := range 9 {
		s += text(d.Office(i))
	}
	return s + text(d.Files(7))
}

// try does a trial with some faults, the last one first, so that the first one
// is not undone by others.
func (u duty) try(t *testing.T, faults ...fault) {
	t.Helper()
	x := trial{ahead: voyage(), c: commandOf(t, u.line)}
	if u.line[:5] == "clash" { // it tells of a room that is false
		falseRoom().spoil(&x)
	}
	for i := len(faults) - 1; i >= 0; i-- {
		faults[i].spoil(&x)
	}
	d := deskOf(t, x.ahead...)
	before := shown(d)
	got := d.Do(x.c)
	if len(faults) == 0 {
		if strings.HasPrefix(got[0], "error") {
			t.Error(u.line, got)
		}
		return
	}
	if !same(got, []string{fmt.Sprintf("error %d", faults[0].e)}) {
		t.Error(u.line, x.c, got, "due:", faults[0].e)
	}
	if shown(d) != before {
		t.Error(u.line, x.c, got, "has changed the desk")
	}
}

// TestErrors is P10.2 for Do: of all faults of a command the first one is told,
// in the order of the chapter; and P10.5: a command that is refused changes
// nothing.
func TestErrors(t *testing.T) {
	for _, u := range slices.Concat(setUpDuties(), recordDuties(), exchangeDuties(), filesDuties(), measureDuties()) {
		u.try(t)
		for i, f := range u.faults {
			u.try(t, f)
			for _, other := range u.faults[i+1:] {
				u.try(t, f, other)
			}
		}
	}
}
