package desk_test

import (
	"fmt"
	"math/rand"
	"slices"
	"strings"
	"testing"

	"moorsom/api"
	"moorsom/desk"
)

// A form is a row of the chapter's table.
type form struct {
	word           string
	kind           int
	numbers, texts int
}

func forms() []form {
	return []form{
		{"code", 1, 1, 1}, {"passage", 2, 5, 0}, {"lines", 3, 2, 0}, {"freeboard", 4, 2, 0},
		{"season", 5, 4, 0}, {"leg", 6, 7, 0}, {"try", 7, 3, 0}, {"clear", 8, 0, 0},
		{"build", 11, 8, 2}, {"room", 12, 10, 2}, {"gone", 13, 5, 0},
		{"kind", 14, 6, 0}, {"opening", 15, 6, 0}, {"crew", 16, 6, 0}, {"flag", 17, 5, 0},
		{"read", 18, 10, 0}, {"tape", 19, 9, 0}, {"withdraw", 20, 3, 0}, {"grant", 21, 5, 0},
		{"offer", 22, 2, 0}, {"deliver", 23, 1, 0}, {"lose", 24, 1, 0}, {"double", 25, 1, 0},
		{"restart", 26, 3, 0}, {"pack", 27, 1, 0},
		{"state", 30, 4, 0}, {"figures", 31, 4, 0}, {"certs", 32, 3, 0}, {"issue", 33, 3, 0},
		{"due", 34, 3, 0}, {"ledger", 35, 3, 0}, {"balance", 36, 3, 0}, {"lineage", 37, 4, 0},
		{"moved", 38, 5, 0}, {"table", 39, 4, 0}, {"judge", 40, 6, 0}, {"sure", 41, 4, 0},
		{"sinks", 42, 6, 0}, {"prove", 43, 6, 0}, {"fewest", 44, 6, 0}, {"clash", 45, 5, 0},
		{"holder", 46, 3, 0}, {"free", 47, 4, 0}, {"counts", 48, 0, 0},
	}
}

// anyCommand is one that is right.
func (f form) anyCommand(r *rand.Rand) api.Command {
	c := api.Command{Kind: f.kind}
	for range f.numbers {
		n := []int{0, 1, -1, 9, 10, -10, 100000, 1000000000000, -1000000000000, 999999999999, r.Intn(2000), -r.Intn(2000)}[r.Intn(12)]
		c.Args = append(c.Args, n)
	}
	for range f.texts {
		c.Texts = append(c.Texts, []string{"", " ", "0 1000", "a\nb", `"`, `\`, `\n`, "\n", "~!", `\"x`}[r.Intn(10)])
	}
	return c
}

// words are those of a command's line.
func (f form) words(c api.Command) []string {
	words := []string{f.word}
	for _, n := range c.Args {
		words = append(words, fmt.Sprint(n))
	}
	for _, s := range c.Texts {
		words = append(words, `"`+strings.NewReplacer(`\`, `\\`, `"`, `\"`, "\n", `\n`).Replace(s)+`"`)
	}
	return words
}

// TestCommands is P10.1: each command of the table has its line.
func TestCommands(t *testing.T) {
	r := rand.New(rand.NewSource(103))
	for _, f := range forms() {
		for range 20 {
			c := f.anyCommand(r)
			line := strings.Join(f.words(c), " ")
			if got, e := desk.Print(c); e != api.OK || got != line {
				t.Fatalf("%v: %q, %d; want %q", c, got, e, line)
			}
			wide := strings.Repeat(" ", r.Intn(3)) + strings.Join(f.words(c), strings.Repeat(" ", 1+r.Intn(3))) + strings.Repeat(" ", r.Intn(3))
			for _, l := range []string{line, wide} {
				if got, at, e := desk.Parse(l); e != api.OK || at != 0 || !same(got, c) {
					t.Fatalf("%q: %v, %d, %d; want %v", l, got, at, e, c)
				}
			}
		}
	}
}

// TestKinds: there are no other commands.
func TestKinds(t *testing.T) {
	for kind := -3; kind < 60; kind++ {
		isOne := slices.ContainsFunc(forms(), func(f form) bool { return f.kind == kind })
		for numbers := range 12 {
			for texts := range 4 {
				c := api.Command{Kind: kind, Args: make([]int, numbers), Texts: make([]string, texts)}
				isRight := slices.ContainsFunc(forms(), func(f form) bool {
					return f.kind == kind && f.numbers == numbers && f.texts == texts
				})
				line, e := desk.Print(c)
				if isRight != (e == api.OK) || !isRight && (e != api.ErrLine || line != "") {
					t.Error(c, line, e)
				}
				if got := desk.New().Do(c); !isRight && !same(got, []string{"error 100"}) {
					t.Error(c, isOne, got)
				}
			}
		}
	}
	for _, word := range []string{"Code", "codes", "cod", "", "counts1", "figure", "kinds", "tries", "-", "0"} {
		for numbers := range 11 {
			line := word + strings.Repeat(" 1", numbers)
			if _, _, e := desk.Parse(line); e != api.ErrLine {
				t.Error(line, e)
			}
		}
	}
}

// wrongLine tells of a line that is refused at a place.
func wrongLine(t *testing.T, line string, at int) {
	t.Helper()
	if c, got, e := desk.Parse(line); e != api.ErrLine || got != at || !same(c, api.Command{}) {
		t.Errorf("%q: %v, %d, %d; want %d", line, c, got, e, at)
	}
}

// TestParseWrong is P10.2: the place of the first word that is wrong.
func TestParseWrong(t *testing.T) {
	r := rand.New(rand.NewSource(104))
	for _, f := range forms() {
		words := f.words(f.anyCommand(r))
		line := strings.Join(words, "  ")
		wrongLine(t, line+" 1", len(line)+1)
		wrongLine(t, line+"   x  ", len(line)+3)
		wrongLine(t, line+` "a" 1`, len(line)+1)
		wrongLine(t, " x"+line, 1)
		wrongLine(t, `"`+f.word+`"`+strings.Repeat(" 1", f.numbers), 0)
		at := len(f.word) + 2
		for i, w := range words[1:] {
			ahead := strings.Join(words[:i+1], "  ")
			wrongLine(t, ahead, len(ahead)) // a word is missing
			wrongLine(t, ahead+"  ", len(ahead)+2)
			for _, other := range []string{"x", `"`, "1x", `"1"`, "07", "-0", "+1", "1.0", "1_0", "0x1", "--1", "-", "1000000000001", "-1000000000001", "99999999999999999999", "00"} {
				if i >= f.numbers && strings.HasPrefix(other, `"`) || other == `"` {
					continue
				}
				spoilt := slices.Clone(words)
				spoilt[i+1] = other
				wrongLine(t, strings.Join(spoilt, "  "), at)
				spoilt = append(spoilt, "x") // one more wrong word behind it
				wrongLine(t, strings.Join(spoilt, "  "), at)
			}
			at += len(w) + 2
		}
	}
	wrongLine(t, "", 0)
	wrongLine(t, "    ", 4)
	wrongLine(t, "#", 1)
	wrongLine(t, "# clear", 7)
	wrongLine(t, "#\t\x80 \"", 5)
	wrongLine(t, "  # clear", 2)
	wrongLine(t, "clear # x", 6)
	wrongLine(t, "code 2", 6)
	wrongLine(t, "counts 1", 7)
}

// TestParseErrors is P10.2: which error of a line is told.
func TestParseErrors(t *testing.T) {
	long := strings.Repeat(" ", api.MaxLine)
	many := strings.Repeat(" 1", api.MaxWords)
	for _, x := range []struct {
		line string
		at   int
		e    api.Errno
	}{
		{"#" + long, 0, api.ErrLong},
		{"clear" + long, 0, api.ErrLong},
		{"\t" + long, 0, api.ErrLong},
		{long[:7999] + "x", 7999, api.ErrLine},
		{long, 8000, api.ErrLine},
		{"#" + long[1:], 8000, api.ErrLine},
		{"# \"" + many + many, 83, api.ErrLine},
		{"nothing \t", 8, api.ErrWord},
		{"nothing 1 x\x80", 11, api.ErrWord},
		{`nothing "a`, 8, api.ErrWord},
		{"counts" + many, 0, api.ErrLong},
		{"counts" + many + " \x01", 47, api.ErrWord},
		{"nothing" + many, 0, api.ErrLong},
		{"counts" + many[2:], 7, api.ErrLine},
	} {
		if c, at, e := desk.Parse(x.line); e != x.e || at != x.at || !same(c, api.Command{}) {
			t.Errorf("%.20q: %v, %d, %d; want %d, %d", x.line, c, at, e, x.at, x.e)
		}
	}
	right := "clear" + long[:7995]
	if c, at, e := desk.Parse(right); e != api.OK || at != 0 || c.Kind != api.CmdClear {
		t.Error(c, at, e)
	}
}

// TestPrintErrors is P10.2: commands that are not right, and lines that would
// be too long.
func TestPrintErrors(t *testing.T) {
	for _, c := range []api.Command{
		{},
		{Kind: 9},
		{Kind: -1},
		{Kind: 49},
		{Kind: api.CmdClear, Args: []int{0}},
		{Kind: api.CmdClear, Texts: []string{""}},
		{Kind: api.CmdPack},
		{Kind: api.CmdPack, Args: []int{1000000000001}},
		{Kind: api.CmdPack, Args: []int{-1000000000001}},
		{Kind: api.CmdFree, Args: []int{0, 0, 0, 1 << 62}},
		{Kind: api.CmdCode, Args: []int{1}},
		{Kind: api.CmdCode, Args: []int{1}, Texts: []string{"a", "b"}},
		{Kind: api.CmdCode, Args: []int{1}, Texts: []string{"a\tb"}},
		{Kind: api.CmdCode, Args: []int{1}, Texts: []string{"a\x7f"}},
		{Kind: api.CmdCode, Args: []int{1}, Texts: []string{"\x80" + strings.Repeat("a", 9000)}},
	} {
		if line, e := desk.Print(c); e != api.ErrLine || line != "" {
			t.Error(c, line, e)
		}
		if got := desk.New().Do(c); !same(got, []string{"error 100"}) {
			t.Error(c, got)
		}
	}
	c := api.Command{Kind: api.CmdCode, Args: []int{1}, Texts: []string{strings.Repeat("a", api.MaxLine-9)}}
	line, e := desk.Print(c)
	if e != api.OK || len(line) != api.MaxLine {
		t.Error(len(line), e)
	}
	if got, at, e := desk.Parse(line); e != api.OK || at != 0 || !same(got, c) {
		t.Error(at, e)
	}
	c.Texts[0] = `"` + c.Texts[0][1:]
	if line, e := desk.Print(c); e != api.ErrLong || line != "" {
		t.Error(len(line), e)
	}
	if got := desk.New().Do(c); !same(got, []string{"error 5"}) { // it may be done nevertheless
		t.Error(got)
	}
}

// TestParsePrint is P10.1: Print of what Parse returns is a line with the same
// command.
func TestParsePrint(t *testing.T) {
	r := rand.New(rand.NewSource(105))
	right := 0
	for range 20000 {
		f := forms()[r.Intn(len(forms()))]
		words := f.words(f.anyCommand(r))
		if r.Intn(4) == 0 {
			words[r.Intn(len(words))] = anyLine(r, 4)
		}
		line := strings.Join(words, strings.Repeat(" ", 1+r.Intn(2)))
		c, at, e := desk.Parse(line)
		if e != api.OK {
			if !same(c, api.Command{}) || at < 0 || at > len(line) {
				t.Fatalf("%q: %v, %d, %d", line, c, at, e)
			}
			continue
		}
		right++
		printed, e := desk.Print(c)
		mustHold(t, e, line)
		again, at, e := desk.Parse(printed)
		if e != api.OK || at != 0 || !same(again, c) {
			t.Fatalf("%q: %v; %q: %v, %d, %d", line, c, printed, again, at, e)
		}
	}
	if right < 10000 {
		t.Error("few lines are right:", right)
	}
}

// TestParseExamples are the examples of the chapter.
func TestParseExamples(t *testing.T) {
	c, at, e := desk.Parse("free 0 7 -5 7")
	if e != api.OK || at != 0 || !same(c, api.Command{Kind: api.CmdFree, Args: []int{0, 7, -5, 7}}) {
		t.Error(c, at, e)
	}
}
