package desk_test

import (
	"fmt"
	"math/rand"
	"slices"
	"strings"
	"testing"

	"moorsom/api"
	"moorsom/desk"
)

// runs holds what a script tells against what is due.
func runs(t *testing.T, text, told string) {
	t.Helper()
	if got, line, e := desk.Run(text); got != told || line != 0 || e != api.OK {
		t.Errorf("%.60q: %q, %d, %d; due: %q", text, got, line, e, told)
	}
}

// fails holds the error of a script, by Run and by Transcript.
func fails(t *testing.T, text string, line int, e api.Errno) {
	t.Helper()
	if told, at, got := desk.Run(text); told != "" || at != line || got != e {
		t.Errorf("%.60q: %q, %d, %d; due: %d, %d", text, told, at, got, line, e)
	}
	if paper, at, got := desk.Transcript(text); paper != "" || at != line || got != e {
		t.Errorf("%.60q: %q, %d, %d; due: %d, %d", text, paper, at, got, line, e)
	}
}

// TestRun is P10.2: which lines of a script are done, and what is told.
func TestRun(t *testing.T) {
	for text, told := range map[string]string{
		"":                                      "",
		"\n":                                    "",
		"\n\n  \n# clear\n#\t\x80\n":            "",
		"clear":                                 "ok\n",
		"clear\n":                               "ok\n",
		"  clear  \n\n":                         "ok\n",
		"# x\nclear\n    \nclear":               "ok\nok\n",
		"deliver 0\nclear\npack 9":              "error 3\nok\nerror 1\n",
		"pack 0\n" + build + "\npack 7\npack 7": "records 0\nrecord 7 0\nrecords 1\nrecords 1\n",
	} {
		runs(t, text, told)
	}
	runs(t, "counts", strings.Repeat("records 0\n", 9))
	runs(t, "counts", strings.Repeat("records 0\n", 9)) // each time at a new desk
}

// TestRunErrors is P10.2: the first wrong line of a script; all lines count.
func TestRunErrors(t *testing.T) {
	long := strings.Repeat(" ", 8000)
	for _, x := range []struct {
		text string
		line int
		e    api.Errno
	}{
		{"clear 1", 1, api.ErrLine},
		{"# x\n\nclear\nclea\nclear\tx\n", 4, api.ErrLine},
		{"# x\n\nclear\nclear\tx\nclea", 4, api.ErrWord},
		{"clear\r\nclear\r\n", 1, api.ErrWord},
		{"clear\n\t\n", 2, api.ErrWord},
		{"clear\n \u00a0\n", 2, api.ErrWord},
		{"clear\n # clear\n", 2, api.ErrLine},
		{"clear\ncode 2 \"a\nb\"\n", 2, api.ErrWord},
		{"clear\n\nclear" + long, 3, api.ErrLong},
		{"clear" + long + "\n\nx", 1, api.ErrLong},
		{"x\nclear" + long, 1, api.ErrLine},
		{"\n\ncounts" + strings.Repeat(" 1", 20), 3, api.ErrLong},
	} {
		fails(t, x.text, x.line, x.e)
	}
	// Lines that say nothing may be as long as they like.
	runs(t, long+" \n#"+long+"\nclear", "ok\n")
}

// TestRunLong is P10.2: how long a script may be.
func TestRunLong(t *testing.T) {
	remark := "#" + strings.Repeat("x", api.MaxScript-1)
	runs(t, remark, "")
	runs(t, remark+"\n", "")
	fails(t, remark+"x", 0, api.ErrLong)
	fails(t, remark+"x\n", 0, api.ErrLong)
	fails(t, remark+"\n\n", 0, api.ErrLong)
	fails(t, "x\n"+remark, 0, api.ErrLong)
	runs(t, strings.Repeat("\n", api.MaxScript+1), "")
	fails(t, strings.Repeat("\n", api.MaxScript+2), 0, api.ErrLong)

	runs(t, strings.Repeat("clear\n\n# x\n", api.MaxLines), strings.Repeat("ok\n", api.MaxLines))
	many := strings.Repeat("clear\n", api.MaxLines)
	fails(t, many+"clear", 0, api.ErrLong)
	fails(t, "x\n"+many, 0, api.ErrLong)
	fails(t, many+"x", 0, api.ErrLong)
	fails(t, "\n"+many[:894]+"clear x", 151, api.ErrLine)
}

// TestTranscript is P10.2: the transcript of a script has its lines as they
// are, and what Run tells.
func TestTranscript(t *testing.T) {
	for text, want := range map[string]string{
		"":                         "",
		"\n# x\n":                  "",
		"clear":                    "> clear\n< ok\n",
		"  clear  \n# x\npack   3": ">   clear  \n< ok\n> pack   3\n< records 0\n",
		"lose 1\n\nclear":          "> lose 1\n< error 3\n> clear\n< ok\n",
	} {
		if paper, line, e := desk.Transcript(text); paper != want || line != 0 || e != api.OK {
			t.Errorf("%q: %q, %d, %d; due: %q", text, paper, line, e, want)
		}
	}
	r := clerk{rand.New(rand.NewSource(107))}
	for range 60 {
		lines := r.history(80)
		told, _, e := desk.Run(script(lines...))
		mustHold(t, e)
		var want, answers []string
		d := desk.New()
		for _, line := range lines {
			answer := ask(t, d, line)
			answers = append(answers, answer...)
			want = append(want, "> "+line)
			for _, s := range answer {
				want = append(want, "< "+s)
			}
		}
		paper := transcript(t, lines...)
		if told != script(answers...) || paper != script(want...) {
			t.Fatal(told, paper, want)
		}
		text, said, line, e := desk.Open(paper)
		if text != script(lines...) || said != told || line != 0 || e != api.OK {
			t.Fatal(text, said, line, e)
		}
	}
}

// longAnswers is a script whose answers are long: the ship's flag changes on
// each of so many days, and each query has a line for each of them.
func longAnswers(days, queries int) []string {
	law := ` "code low\nversion 0\ngross 1 0 -1000000000000 0\nnet 1 0 -1000000000000 0\n"`
	lines := []string{"code 1" + law, "code 2" + law, `build 7 7 10010 0 2 100 100 200 "0 1000" "0 1000"`}
	for i := range days {
		lines = append(lines, fmt.Sprintf("flag 7 7 %d 0 %d", 10011+i, 1+i%2))
	}
	return append(lines, times(queries, "certs 7 7 0")...)
}

// TestTranscriptLong is P10.2: how long a transcript may be.
func TestTranscriptLong(t *testing.T) {
	lines := longAnswers(70, 42)
	short, line, e := desk.Transcript(script(lines...))
	mustHold(t, e, line)
	left := api.MaxPaper - len(short)
	if left < 0 || left > 30000 {
		t.Fatal("no paper of the right length:", left)
	}
	lines = append(lines, "clear")
	left -= len("> clear\n< ok\n")
	for i := 0; left > 0; i++ { // spaces behind a command count, and do nothing
		n := min(left, 7000)
		lines[i] += strings.Repeat(" ", n)
		left -= n
	}
	paper := transcript(t, lines...)
	if len(paper) != api.MaxPaper {
		t.Fatal(len(paper))
	}
	if text, told, line, e := desk.Open(paper); text == "" || told == "" || line != 0 || e != api.OK {
		t.Error(line, e)
	}
	lines[len(lines)-1] += " "
	text := script(lines...)
	if told, line, e := desk.Run(text); told == "" || line != 0 || e != api.OK {
		t.Error(line, e)
	}
	if paper, line, e := desk.Transcript(text); paper != "" || line != 0 || e != api.ErrLong {
		t.Error(len(paper), line, e)
	}
	if paper, line, e := desk.Transcript(text + "x"); paper != "" || line != len(lines)+1 || e != api.ErrLine {
		t.Error(len(paper), line, e)
	}
	paper = strings.TrimSuffix(paper, "\n") + " \n"
	if text, told, line, e := desk.Open(paper); text != "" || told != "" || line != 0 || e != api.ErrLong {
		t.Error(line, e)
	}
	if line, e := desk.Accept(paper); line != 0 || e != api.ErrLong {
		t.Error(line, e)
	}
}

// TestOpen is P10.2: what a transcript's script is, and what it tells.
func TestOpen(t *testing.T) {
	for _, x := range []struct {
		paper, text, told string
		line              int
		e                 api.Errno
	}{
		{"", "", "", 0, api.OK},
		{"> clear\n< ok", "clear\n", "ok\n", 0, api.OK},
		{"> clear\n< ok\n", "clear\n", "ok\n", 0, api.OK},
		{"< a\n< b\n> c\n>  d \n< \n< e", "c\n d \n", "a\nb\n\ne\n", 0, api.OK},
		{"> ", "\n", "", 0, api.OK},
		{"> > x\n< < y\n", "> x\n", "< y\n", 0, api.OK},
		{"> # \t\x80\n", "# \t\x80\n", "", 0, api.OK},
		{"\n", "", "", 1, api.ErrPaper},
		{">clear\n", "", "", 1, api.ErrPaper},
		{"> clear\n<\n", "", "", 2, api.ErrPaper},
		{"> clear\n< ok\n\n", "", "", 3, api.ErrPaper},
		{"> clear\n\n< ok\nx", "", "", 2, api.ErrPaper},
		{" > clear\n", "", "", 1, api.ErrPaper},
		{"> clear\n< ok\n# x", "", "", 3, api.ErrPaper},
		{strings.Repeat("> \n", 66666) + "> ", strings.Repeat("\n", 66667), "", 0, api.OK},
		{strings.Repeat("> \n", 66667), "", "", 0, api.ErrLong},
		{strings.Repeat("x", api.MaxPaper), "", "", 1, api.ErrPaper},
		{strings.Repeat("x", api.MaxPaper+1), "", "", 0, api.ErrLong},
	} {
		text, told, line, e := desk.Open(x.paper)
		if text != x.text || told != x.told || line != x.line || e != x.e {
			t.Errorf("%.60q: %.60q, %.60q, %d, %d", x.paper, text, told, line, e)
		}
	}
}

// TestRefused is P10.5: a script without the commands that are refused tells
// the same, but for their errors.
func TestRefused(t *testing.T) {
	r := clerk{rand.New(rand.NewSource(108))}
	for range 100 {
		var kept, told []string
		d := desk.New()
		for _, line := range r.history(120) {
			answer := ask(t, d, line)
			if strings.HasPrefix(answer[0], "error") && !strings.HasPrefix(line, "deliver") {
				continue
			}
			kept = append(kept, line)
			told = append(told, answer...)
		}
		if len(kept) > api.MaxLines {
			continue
		}
		runs(t, script(kept...), script(told...))
	}
}

// TestAnyText is P1: no text makes a panic, and with an error there are no
// other results.
func TestAnyText(t *testing.T) {
	r := clerk{rand.New(rand.NewSource(109))}
	for range 3000 {
		var lines []string
		for range r.Intn(6) {
			line := anyLine(r.Rand, 6)
			if r.Intn(3) > 0 {
				line = r.next()
			}
			lines = append(lines, r.one("", "", "> ", "< ")+line)
		}
		text := strings.Join(lines, "\n")
		if told, line, e := desk.Run(text); e != api.OK && told != "" || e == api.OK && line != 0 {
			t.Fatalf("%q: %q, %d, %d", text, told, line, e)
		}
		if paper, line, e := desk.Transcript(text); e != api.OK && paper != "" || e == api.OK && line != 0 {
			t.Fatalf("%q: %q, %d, %d", text, paper, line, e)
		}
		if script, told, line, e := desk.Open(text); e != api.OK && script+told != "" || e == api.OK && line != 0 {
			t.Fatalf("%q: %q, %q, %d, %d", text, script, told, line, e)
		}
		if line, e := desk.Accept(text); line < 0 || line > len(lines)+2 || e == api.OK && line != 0 {
			t.Fatalf("%q: %d, %d", text, line, e)
		}
	}
}

// TestAnyCommand is P1: no command makes a panic, whatever numbers it has.
func TestAnyCommand(t *testing.T) {
	r := clerk{rand.New(rand.NewSource(110))}
	d := deskOf(t, slices.Concat(voyage(), []string{"offer 7 2"})...)
	edges := []int{0, 1, -1, 7, 9, 100, 999, 1000, 9999, 10000, 99999, 100000, 100001, 1000000000000, -1000000000000, 1000000000001, 1 << 62, -1 << 63}
	for range 20000 {
		f := forms()[r.Intn(len(forms()))]
		c := f.anyCommand(r.Rand)
		for i := range c.Args {
			if r.Intn(2) == 0 {
				c.Args[i] = edges[r.Intn(len(edges))]
			}
		}
		if len(c.Args) > 0 && r.Intn(2) == 0 {
			c.Args[0] = 7
		}
		if answer := d.Do(c); len(answer) == 0 {
			t.Fatal(c, answer)
		}
	}
}
