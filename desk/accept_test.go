package desk_test

import (
	"fmt"
	"math/rand"
	"slices"
	"strings"
	"testing"

	"moorsom/api"
	"moorsom/desk"
	"moorsom/mark"
)

// accepts holds the result of Accept.
func accepts(t *testing.T, paper string, line int, e api.Errno) {
	t.Helper()
	if at, got := desk.Accept(paper); at != line || got != e {
		t.Errorf("%.200q: %d, %d; due: %d, %d", paper, at, got, line, e)
	}
}

// TestAcceptExamples are those of the chapter, and others as short.
func TestAcceptExamples(t *testing.T) {
	for _, x := range []struct {
		paper string
		line  int
		e     api.Errno
	}{
		{"", 0, api.OK},
		{"> clear\n< ok\n", 0, api.OK},
		{"> clear\n< yes\n", 2, api.ErrTold},
		{">  clear \n< ok\n> pack 3\n< records 0\n", 0, api.OK},
		// What is told in another form.
		{"> clear\n< ok \n", 2, api.ErrTold},
		{"> clear\n<  ok\n", 2, api.ErrTold},
		{"> pack 3\n< records 00\n", 2, api.ErrTold},
		{"> pack 3\n< records  0\n", 2, api.ErrTold},
		// Lines that are missing, and lines too many.
		{"> clear\n", 2, api.ErrTold},
		{"> clear", 2, api.ErrTold},
		{"> clear\n> clear\n< ok\n", 2, api.ErrTold},
		{"> clear\n< ok\n> clear\n", 4, api.ErrTold},
		{"> clear\n< ok\n< ok\n", 3, api.ErrTold},
		{"> clear\n< ok\n< ok\n> clear\n< ok\n", 3, api.ErrTold},
		{"> clear\n< \n< ok\n", 2, api.ErrTold},
		{"> counts\n" + strings.Repeat("< records 0\n", 8), 10, api.ErrTold},
		{"> counts\n" + strings.Repeat("< records 0\n", 8) + "> clear\n< ok\n", 10, api.ErrTold},
		{"> counts\n" + strings.Repeat("< records 0\n", 10) + "> clear\n< ok\n", 11, api.ErrTold},
		// Lines ahead of the first command.
		{"< ok\n", 1, api.ErrTold},
		{"< ok\n> clear\n< ok\n", 1, api.ErrTold},
		{"< ok\n< ok\n> clear\n< no\n", 1, api.ErrTold},
		{"< ok\n> clear\n< ok\n> clea\n", 4, api.ErrLine},
		// The last line feed.
		{"> clear\n< ok", 2, api.ErrTold},
		{"> clear\n< yes\n> clear\n< ok", 2, api.ErrTold},
		{"> clear\n< ok\n> clear\n< ok", 4, api.ErrTold},
		{"> clear\n< ok\n> clear", 4, api.ErrTold},
		{"< ok", 1, api.ErrTold},
	} {
		accepts(t, x.paper, x.line, x.e)
	}
}

// TestAcceptErrors is P10.2 for Accept: what is wrong with its script is told
// ahead of what is told wrongly, in order.
func TestAcceptErrors(t *testing.T) {
	wide := "> code 1 \"" + strings.Repeat("x", 7960) + "\"\n< error 5\n"
	wides := strings.Repeat(wide, 8)
	many := strings.Repeat("> clear\n< ok\n", api.MaxLines)
	for _, x := range []struct {
		paper string
		line  int
		e     api.Errno
	}{
		{strings.Repeat("x", api.MaxPaper+1), 0, api.ErrLong},
		{wides + "> #\nx", 18, api.ErrPaper},
		{wides + "> \n> x\n< \n", 0, api.ErrLong},
		{"> \n" + wides, 0, api.ErrLong},
		{wides[:7*len(wide)] + "> \n", 15, api.ErrPaper},
		{"> x\n< ok\n> \n" + many, 3, api.ErrPaper},
		{"< x\n> clear\n< ok\n>   \n> #\n", 4, api.ErrPaper},
		{"> clear\n< no\n> # clear\n", 3, api.ErrPaper},
		{"> \n", 1, api.ErrPaper},
		{"> x\n< ok\n" + many, 0, api.ErrLong},
		{many + "> clear", 0, api.ErrLong},
		{many, 0, api.OK},
		{"< y\n> clear\n< no\n> clear\n> clear x\n> \tx\n", 5, api.ErrLine},
		{"> clear\n< no\n< no\n> clear\t\n", 4, api.ErrWord},
		{"> clear\n< no\n> # \n" + many, 3, api.ErrPaper},
		{"> clear" + strings.Repeat(" ", 7996) + "\n> x", 1, api.ErrLong},
		{"> clear\n< no\n> clear" + strings.Repeat(" ", 7995), 2, api.ErrTold},
	} {
		accepts(t, x.paper, x.line, x.e)
	}
}

// TestAcceptLong is P10.2 for Accept: a script may have MaxScript bytes, and a
// line feed.
func TestAcceptLong(t *testing.T) {
	head, tail := "code 1 \"", "\""
	var lines []string
	for range 7 {
		lines = append(lines, head+strings.Repeat("x", 7900)+tail)
	}
	left := api.MaxScript - len(script(lines...))
	lines = append(lines, head+strings.Repeat("x", left-len(head+tail))+tail)
	paper := transcript(t, lines...)
	accepts(t, strings.Replace(paper, "xx", "xxx", 1), 0, api.ErrLong)
	accepts(t, strings.Replace(paper, "xx", "x", 1), 0, api.OK)
}

// wrongAmong is the number of the first line in which papers differ; it may be
// that of a line that the first one lacks.
func wrongAmong(got, due []string) int {
	for i := range got {
		if i >= len(due) || got[i] != due[i] {
			return i + 1
		}
	}
	return len(got) + 1
}

// freeAnswers says of each line of a paper whether it is one of an answer that
// may be another one.
func freeAnswers(lines []string) []bool {
	var free []bool
	is := false
	for _, line := range lines {
		if strings.HasPrefix(line, "> ") {
			is = strings.HasPrefix(line, "> prove") || strings.HasPrefix(line, "> sinks")
		}
		free = append(free, is)
	}
	return free
}

// changed are ways to spoil a line of an answer.
func changed(r clerk, line string) []string {
	fields := strings.Fields(line)
	last := fields[len(fields)-1]
	head := strings.TrimSuffix(line, last)
	l := []string{line + " ", line + " 0", "<  " + line[2:], head + "0" + last, head + last + "1", head + "x", "< ", strings.TrimSpace(head) + " ", "< " + r.one("ok", "none", "error 3", "yes", "maybe", "0", "records 1")}
	return slices.DeleteFunc(l, func(s string) bool { return s == line || !strings.HasPrefix(s, "< ") })
}

// TestAlone is P10.6: a transcript with a line of its answers left out, doubled
// or changed is refused at the first line that is wrong.
func TestAlone(t *testing.T) {
	r := clerk{rand.New(rand.NewSource(111))}
	for range 60 {
		paper := transcript(t, r.history(60)...)
		lines := parted(paper)
		free := freeAnswers(lines)
		for range 20 {
			i := r.Intn(len(lines))
			if free[i] || strings.HasPrefix(lines[i], "> ") {
				continue
			}
			out := slices.Delete(slices.Clone(lines), i, i+1)
			double := slices.Insert(slices.Clone(lines), i, lines[i])
			spoilt := slices.Clone(lines)
			other := changed(r, lines[i])
			spoilt[i] = other[r.Intn(len(other))]
			for _, l := range [][]string{out, double, spoilt} {
				accepts(t, script(l...), wrongAmong(l, lines), api.ErrTold)
			}
			accepts(t, strings.TrimSuffix(paper, "\n"), len(lines), api.ErrTold)
			accepts(t, strings.TrimSuffix(script(spoilt...), "\n"), i+1, api.ErrTold)
		}
	}
}

// paperWith is a paper with a command and its answer, with other commands ahead and behind.
func paperWith(ahead, command string, answer ...string) string {
	paper := ahead + "> " + command + "\n"
	for _, line := range answer {
		paper += "< " + line + "\n"
	}
	return paper + "> clear\n< ok\n"
}

// A free is a command whose answer may be another one, in a paper.
type free struct {
	ahead, command string
	first          int // the number of the answer's first line
	due            []string
}

// freeOf is a command behind lines.
func freeOf(t *testing.T, command string, ahead ...string) free {
	t.Helper()
	paper, _, e := desk.Transcript(script(ahead...))
	mustHold(t, e)
	due := ask(t, deskOf(t, ahead...), command)
	x := free{paper, command, len(parted(paper)) + 2, due}
	x.accepted(t, due...)
	return x
}

func (x free) accepted(t *testing.T, answer ...string) {
	t.Helper()
	accepts(t, paperWith(x.ahead, x.command, answer...), 0, api.OK)
}

// refused holds also that nothing behind the answer plays a part.
func (x free) refused(t *testing.T, answer ...string) {
	t.Helper()
	paper := paperWith(x.ahead, x.command, answer...)
	accepts(t, paper, x.first, api.ErrTold)
	accepts(t, paper+"< no\n> clear\n< ok", x.first, api.ErrTold)
}

// refusedForms holds that the lines of an answer are told in no other form.
func (x free) refusedForms(t *testing.T) {
	t.Helper()
	for i, line := range x.due {
		word, numbers, _ := strings.Cut(line, " ")
		last := numbers[strings.LastIndex(numbers, " ")+1:]
		head := strings.TrimSuffix(line, last)
		for _, other := range []string{
			line + " ", " " + line, word + "  " + numbers, word + " 0" + numbers, word + " +" + numbers, word, word + " ", numbers, "x" + line, strings.ToUpper(line),
			line + " 0", head + "x", head + last + "x", head + "0" + last, head + "99999999999999999999", head + "1_0", head + "\t" + last, head + "-0", "", "ok", "none", "error 3",
		} {
			spoilt := slices.Clone(x.due)
			spoilt[i] = other
			if !same(spoilt, x.due) {
				x.refused(t, spoilt...)
			}
		}
		x.refused(t, slices.Delete(slices.Clone(x.due), i, i+1)...)
		x.refused(t, slices.Insert(slices.Clone(x.due), i, line)...)
		x.refused(t, slices.Insert(slices.Clone(x.due), i+1, "")...)
	}
	x.refused(t) // the line that stands in the place of the answer
	x.refused(t, "error 35")
	x.refused(t, "none")
	x.refused(t, x.due[0])
	x.refused(t, slices.Concat(x.due, []string{"error 3"})...)
	x.refused(t, slices.Concat(x.due, x.due)...)
	accepts(t, x.ahead+"> "+x.command+"\n", x.first, api.ErrTold) // no line stands there
	accepts(t, x.ahead+"> "+x.command, x.first, api.ErrTold)
	whole := x.ahead + "> " + x.command + "\n< " + strings.Join(x.due, "\n< ")
	accepts(t, whole+"\n", 0, api.OK)
	accepts(t, whole, x.first+len(x.due)-1, api.ErrTold)
}

// weaker is a proof with both limits of the first offset taken so many times
// more, by which the bound is 20000 times as much greater.
func weaker(lines []string, times int) []string {
	p, _ := proofOf(lines)
	taken := map[int]int{0: times, 1: times}
	for _, u := range p.Uses {
		taken[u.Limit] += u.Times
	}
	l := []string{fmt.Sprint("bound ", p.Bound+20000*times)}
	for i := range 100 {
		if taken[i] > 0 {
			l = append(l, fmt.Sprintf("use %d %d", i, taken[i]))
		}
	}
	return l
}

// TestOtherProofs is P10.2 for Accept: of `prove` each proof of the end that is
// due will do.
func TestOtherProofs(t *testing.T) {
	high := freeOf(t, "prove 7 7 22 40 5 1", voyage()...) // 510 litres, just
	low := freeOf(t, "prove 7 7 22 40 5 0", voyage()...)  // 37 and a half
	for _, x := range []struct {
		free
		most int
	}{{high, 32399}, {low, 16200}} {
		x.accepted(t, weaker(x.due, 1)...)
		x.accepted(t, weaker(x.due, x.most)...)
		x.refused(t, weaker(x.due, x.most+1)...)
		other := weaker(x.due, 5)
		x.refused(t, slices.Concat([]string{x.due[0]}, other[1:])...)
		x.refused(t, slices.Concat([]string{other[0]}, x.due[1:])...)
		swapped := slices.Clone(x.due)
		slices.Reverse(swapped[1:])
		x.refused(t, swapped...)
		x.refusedForms(t)
	}
	high.refused(t, low.due...)
	low.refused(t, high.due...)
	if high.due[0] != "bound 330480000000" || low.due[0] != "bound -24300000000" {
		t.Error(high.due, low.due)
	}
	// Another survey has other proofs.
	hull := freeOf(t, "prove 7 7 22 40 100 1", voyage()...)
	hull.refused(t, high.due...)
	hull.accepted(t, weaker(hull.due, 100)...)
}

// legLines tell a witness.
func legLines(leg, dense, mass int, rows ...string) []string {
	l := []string{fmt.Sprintf("leg %d %d %d", leg, dense, mass)}
	for _, row := range rows {
		l = append(l, strings.TrimSpace("row "+row))
	}
	return l
}

// TestOtherWitnesses is P10.2 for Accept: of `sinks` each witness for the leg
// that is due will do.
func TestOtherWitnesses(t *testing.T) {
	x := freeOf(t, "sinks 7 7 22 40 180 200", voyage()...)
	a, b := "75 175", "0 130"
	x.accepted(t, legLines(0, 1000, 200, a, b)...)
	x.accepted(t, legLines(0, 1000, 191, a, b)...)
	x.accepted(t, legLines(0, 1025, 195, a, b)...)
	x.accepted(t, legLines(0, 1000, 200, "76 175", b)...)
	for _, l := range [][]string{
		legLines(0, 1000, 190, a, b), legLines(0, 1000, 201, a, b), legLines(0, 1000, 179, a, b),
		legLines(0, 999, 200, a, b), legLines(0, 1026, 200, a, b), legLines(0, 1025, 194, a, b),
		legLines(0, 1000, 200, "74 175", b), legLines(0, 1000, 200, "0 0", "0 0"), legLines(0, 1000, 200, "100 200", "150 300"),
		legLines(0, 1000, 200, a), legLines(0, 1000, 200, a, b, b), legLines(0, 1000, 200, a, "0 130 0"), legLines(0, 1000, 200, a, "0"),
		legLines(0, 1000, 200), legLines(0, 1000, 200, "", ""), legLines(2, 1000, 200, a, b), legLines(-1, 1000, 200, a, b),
		legLines(1, 1000, 195, a, b),
		{"leg 0 1000", "row " + a, "row " + b}, {"leg 0 1000 200 0", "row " + a, "row " + b}, {"leg 0 1000 200", "rows " + a, "row " + b},
		{"row " + a, "leg 0 1000 200", "row " + b}, {"row " + a, "row " + b, "leg 0 1000 200"},
	} {
		x.refused(t, l...)
	}
	x.refusedForms(t)
	// The second leg is sunk, too, but is not the one that is due.
	d := deskOf(t, voyage()...)
	lines, route := d.Lines()
	w := api.Witness{Leg: 1, Dense: 1000, Mass: 195, Hull: api.Hull{Rows: [][]int{{75, 175}, {0, 130}}}}
	mustHold(t, mark.CheckSinks(surveyAt(t, d, 7, 100, 22, 40), lines, route, api.Range{Lo: 180, Hi: 200}, w))
	// Where the first leg keeps its mark, the second one is due.
	heavy := []string{"clear", "leg 1 22 30 1100 1100 0 0", "leg 1 30 40 1000 1000 0 0"}
	y := freeOf(t, "sinks 7 7 22 40 200 205", slices.Concat(voyage(), heavy)...)
	y.accepted(t, legLines(1, 1000, 203, a, b)...)
	y.refused(t, legLines(0, 1000, 203, a, b)...)
	y.refused(t, legLines(0, 1100, 203, a, b)...)
}

// TestErrorDue is P10.2 for Accept: where an error is due, `prove` and `sinks`
// tell that error.
func TestErrorDue(t *testing.T) {
	right := ask(t, deskOf(t, voyage()...), "prove 7 7 22 40 5 1")
	for command, due := range map[string]string{
		"prove 7 7 22 40 9 1":     "error 55",
		"prove 7 7 22 40 5 2":     "error 1",
		"prove 9 7 22 40 5 1":     "error 1",
		"sinks 7 7 22 40 150 160": "error 3",
		"sinks 7 7 9 40 150 160":  "error 52",
	} {
		x := freeOf(t, command, voyage()...)
		if !same(x.due, []string{due}) {
			t.Error(command, x.due)
		}
		x.refused(t)
		x.refused(t, "error 35")
		x.refused(t, due+" ")
		// Told twice, the second line is wrong, or the answer as a whole.
		line, e := desk.Accept(paperWith(x.ahead, x.command, due, due))
		if e != api.ErrTold || line != x.first && line != x.first+1 {
			t.Error(command, line, e)
		}
		x.refused(t, right...)
		x.refused(t, legLines(0, 1000, 160, "75 175", "0 130")...)
	}
}
