package code_test

import (
	"fmt"
	"strings"
	"testing"

	"moorsom/api"
	"moorsom/code"
)

func TestParseExample(t *testing.T) {
	c, line, e := code.Parse(exampleText)
	if e != api.OK || line != 0 || !same(c, example()) {
		t.Error(c, line, e)
	}
	text, e := code.Print(example())
	if e != api.OK || text != exampleText {
		t.Error(text, e)
	}
}

// TestParseForms: what texts may have beside what Print writes.
func TestParseForms(t *testing.T) {
	plain := oneVersion(api.Version{})
	two := func(f, g int, l ...api.Piece) api.Code {
		v := api.Version{}
		v.Lines[f][g] = l
		return oneVersion(v)
	}
	puts := func(l ...api.Put) api.Code { return oneVersion(api.Version{Puts: l}) }
	for text, want := range map[string]api.Code{
		"code x\nversion 0\n":                           plain,
		"code x\nversion 0":                             plain,
		"\n\ncode x\n\n  \nversion 0\n\n\n":             plain,
		"  code   x  \n version  0 ":                    plain,
		"# code y\ncode x\n#version 5\nversion 0\n#":    plain,
		"#\xff\x00\ncode x\nversion 0":                  plain,
		"code x\nversion 100000":                        oneVersion(api.Version{From: 100000}),
		"code version\nversion 0":                       {Name: "version", Versions: from(0)},
		"code code\nversion 0\nversion 1":               {Name: "code", Versions: from(0, 1)},
		"code x\nversion 0\nput 0":                      puts(api.Put{}),
		"code x\nversion 0\nput 5 kind < 0":             puts(api.Put{Group: 5, Tests: []api.Test{{Of: 1, How: 1}}}),
		"code x\nversion 0\nput 1 opening <= 1000":      puts(api.Put{Group: 1, Tests: []api.Test{{Of: 2, How: 2, Num: 1000}}}),
		"code x\nversion 0\nput 1 crew = 1 kind != 2":   puts(api.Put{Group: 1, Tests: []api.Test{{Of: 3, How: 3, Num: 1}, {Of: 1, How: 4, Num: 2}}}),
		"code x\nversion 0\nput 1 crew >= 1\nput 2":     puts(api.Put{Group: 1, Tests: []api.Test{{Of: 3, How: 5, Num: 1}}}, api.Put{Group: 2}),
		"code x\nversion 0\nput  1   crew  >  10 ":      puts(api.Put{Group: 1, Tests: []api.Test{{Of: 3, How: 6, Num: 10}}}),
		"code x\nversion 0\ngross 1 0 0 0":              two(0, 0, api.Piece{}),
		"code x\nversion 0\ngross 5 0 -1 -2":            two(0, 4, api.Piece{Base: -1, Rate: -2}),
		"code x\nversion 0\nnet 5 0 1000000000000 1":    two(1, 4, api.Piece{Base: 1000000000000, Rate: 1}),
		"code x\nversion 0\nnet 1 0 -1000000000000 1":   two(1, 0, api.Piece{Base: -1000000000000, Rate: 1}),
		"code x\nversion 0\nnet 3 0 0 5\nnet 3 7 1 -10": two(1, 2, api.Piece{Rate: 5}, api.Piece{From: 7, Base: 1, Rate: -10}),
	} {
		c, line, e := code.Parse(text)
		if e != api.OK || line != 0 || !same(c, want) {
			t.Errorf("%q: %v %d %d", text, c, line, e)
		}
	}
}

// TestParseMixed: lines of groups and formulas may stand in any order among
// each other; those of one line keep theirs.
func TestParseMixed(t *testing.T) {
	mixed := `code red
version 0
net 2 0 0 -100
gross 1 0 0 250
put 0 opening >= 500
gross 2 0 0 100
net 1 0 0 250
put 2 kind = 2 crew > 0
gross 1 1000 100000 300
put 1
version 100
gross 1 0 0 250
put 1`
	if c, line, e := code.Parse(mixed); e != api.OK || line != 0 || !same(c, example()) {
		t.Error(c, line, e)
	}
}

// wrongLines are lines that are of none of the forms, behind a code and a version.
var wrongLines = []string{
	"code", "code y", "code y z", "Code y", "x", "version", "version 1 2", "version x", "version -1", "version 01", "version +1",
	"version 1.", "version 12345678901234", "versions 1", "VERSION 1", "version\t1",
	"put", "put x", "put -1", "put 01", "put 1 kind", "put 1 kind <", "put 1 kind < x", "put 1 kind < -1", "put 1 kind < 01", "put 1 kind <1",
	"put 1 kinds < 1", "put 1 Kind < 1", "put 1 kind == 1", "put 1 kind <> 1", "put 1 kind => 1", "put 1 kind 1 <", "put 1 < kind 1",
	"put 1 kind < 1 2", "put 1 kind < 1 kind <", "put 1 kind < 1 kind < x", "put 1 kind < 12345678901234", "put 12345678901234",
	"put 1 x < 1", "put 1 kind < 1 x", "put 1 kind - 1", "put 1 gross < 1", "puts 1", "kind < 1",
	"gross", "gross 1", "gross 1 0", "gross 1 0 0", "gross 1 0 0 0 0", "gross 0 0 0 0", "gross 6 0 0 0", "gross -1 0 0 0", "gross x 0 0 0",
	"gross 01 0 0 0", "gross 1 x 0 0", "gross 1 -1 0 0", "gross 1 0 x 0", "gross 1 0 0 x", "gross 1 0 -0 0", "gross 1 0 0 -0", "gross 1 0 - 0",
	"gross 1 0 --1 0", "gross 1 0 0 -", "gross 1 0 00 0", "gross 1 0 -01 0", "gross 1 0 +1 0", "gross 1 12345678901234 0 0",
	"gross 1 0 12345678901234 0", "gross 1 0 -12345678901234 0", "gross 1 0 0 12345678901234", "gross 1 0 0 1,", "gross 1 0 0 \xff", "gross 1 0 0 ٣",
	"net", "net 1 0 0", "net 1 0 0 0 0", "net 0 0 0 0", "net 6 0 0 0", "net 1 -1 0 0", "net 1 0 0 1-", "nett 1 0 0 0", "Net 1 0 0 0", " #", "\t", "\r",
	"gross 1 99999999999999999999 0 0", "version 1\r", "net 1 0 0 0\x00", "gross 1 0 0 0x1", "gross 1 0 0 1_0",
}

func TestParseWrongLines(t *testing.T) {
	for _, line := range wrongLines {
		for _, behind := range []string{"", "\n", "\nversion 5\n", "\nput x\n"} {
			text := "# it\ncode x\nversion 0\n\nput 1\n" + line + behind
			if c, n, e := code.Parse(text); e != api.ErrText || n != 6 || !same(c, api.Code{}) {
				t.Errorf("%q: %v %d %d", text, c, n, e)
			}
		}
	}
}

func TestParseWrongTexts(t *testing.T) {
	for text, want := range map[string]int{
		"":                              1,
		"\n":                            2,
		"\n\n":                          3,
		"#":                             2,
		"#\n":                           2,
		"   \n# x":                      3,
		"version 0":                     1,
		"# a\n\nversion 0\ncode x":      3,
		"put 1\n":                       1,
		"code":                          1,
		"code x y":                      1,
		"\ncode x\nput 1\nversion 0":    3,
		"code x\ngross 1 0 0 0":         2,
		"code x\nnet 1 0 0 0":           2,
		"code x\n\n# y\ncode x":         4,
		"code x\nversion 0\ncode x":     3,
		"code x\nput\n":                 2,
		"code x\nputt 1\n":              2,
		"x\n":                           1,
		"code x\nversion 0\n\n\nnot\n":  5,
		"code X\nversion 9\nversion x":  3, // ahead of what makes the code invalid
		"code x\nversion 9\nversion -1": 3,
	} {
		if c, n, e := code.Parse(text); e != api.ErrText || n != want || !same(c, api.Code{}) {
			t.Errorf("%q: %v %d %d", text, c, n, e)
		}
	}
}

// TestParseInvalidCodes: lines that are of their forms, but do not make a code.
func TestParseInvalidCodes(t *testing.T) {
	nine := "code x\nversion 0"
	for i := range 9 {
		nine += fmt.Sprintf("\ngross 1 %d 0 0", i)
	}
	twentyOne := "code x\nversion 0" + strings.Repeat("\nput 1", 21)
	for _, text := range []string{
		"code x", "code X\nversion 0", "code 1\nversion 0", "code abcdefghijklm\nversion 0", "code #\nversion 0", "code é\nversion 0",
		"code x\nversion 100001", "code x\nversion 5\nversion 5", "code x\nversion 5\nversion 4", "code x\nversion 9999999999999",
		"code x\nversion 0\nput 6", "code x\nversion 0\nput 9999999999999", "code x\nversion 0\nput 1 kind < 1001",
		"code x\nversion 0\nput 1 kind < 1 kind < 1 kind < 1 kind < 1 kind < 1",
		"code x\nversion 0\ngross 1 1 0 0", "code x\nversion 0\ngross 1 0 0 0\ngross 1 0 0 0",
		"code x\nversion 0\nnet 1 0 0 0\nnet 1 5 0 0\nnet 1 4 0 0", "code x\nversion 0\nnet 1 0 1000000000001 0",
		"code x\nversion 0\nnet 1 0 -9999999999999 0", "code x\nversion 0\nnet 1 0 0 1000001", "code x\nversion 0\nnet 1 0 0 -1000001",
		"code x\nversion 0\nnet 1 0 0 0\nnet 1 20000000001 0 0", nine, twentyOne,
	} {
		if c, n, e := code.Parse(text); e != api.ErrCode || n != 0 || !same(c, api.Code{}) {
			t.Errorf("%q: %v %d %d", text, c, n, e)
		}
	}
}

func TestParseLong(t *testing.T) {
	fill := func(n int) string { return exampleText + strings.Repeat("#", n-len(exampleText)) }
	if c, n, e := code.Parse(fill(20000)); e != api.OK || n != 0 || !same(c, example()) {
		t.Error(c, n, e)
	}
	for _, text := range []string{fill(20001), strings.Repeat("x", 20001), strings.Repeat("\n", 30000)} {
		if c, n, e := code.Parse(text); e != api.ErrLong || n != 0 || !same(c, api.Code{}) {
			t.Error(len(text), c, n, e)
		}
	}
	if _, n, e := code.Parse(strings.Repeat("\n", 20000)); e != api.ErrText || n != 20001 {
		t.Error(n, e)
	}
}

// written writes a code's text, from what the chapter says.
func written(c api.Code) string {
	var b strings.Builder
	fmt.Fprintf(&b, "code %s\n", c.Name)
	for _, v := range c.Versions {
		fmt.Fprintf(&b, "version %d\n", v.From)
		for _, p := range v.Puts {
			fmt.Fprintf(&b, "put %d", p.Group)
			for _, x := range p.Tests {
				of := []string{1: "kind", 2: "opening", 3: "crew"}[x.Of]
				how := []string{1: "<", 2: "<=", 3: "=", 4: "!=", 5: ">=", 6: ">"}[x.How]
				fmt.Fprintf(&b, " %s %s %d", of, how, x.Num)
			}
			fmt.Fprintln(&b)
		}
		for f, word := range []string{"gross", "net"} {
			for g := range 5 {
				for _, p := range v.Lines[f][g] {
					fmt.Fprintln(&b, word, g+1, p.From, p.Base, p.Rate)
				}
			}
		}
	}
	return b.String()
}

// TestParseOfPrint is P4.7.
func TestParseOfPrint(t *testing.T) {
	m := newMaker(47, 30)
	codes := []api.Code{example()}
	valid, _ := versions()
	for _, v := range valid {
		codes = append(codes, oneVersion(v))
	}
	for range 2000 {
		codes = append(codes, m.code())
	}
	for _, c := range codes {
		text, e := code.Print(c)
		if e != api.OK || text != written(c) {
			t.Fatalf("%v: %q %d", c, text, e)
		}
		if d, n, e := code.Parse(text); e != api.OK || n != 0 || !same(c, d) {
			t.Fatalf("%q: %v %d %d", text, d, n, e)
		}
	}
}

// great is a code whose text is as long as it can be.
func great() api.Code {
	c := api.Code{Name: "x"}
	for i := range 12 {
		v := api.Version{From: 100000 - 12 + i, Puts: repeat(20, api.Put{Group: 1, Tests: repeat(4, api.Test{Of: 2, How: 4, Num: 1000})})}
		for f := range v.Lines {
			for g := range v.Lines[f] {
				for n := range 8 {
					v.Lines[f][g] = append(v.Lines[f][g], api.Piece{From: n * 2000000000, Base: -1000000000000 + n, Rate: -1000000 + n})
				}
			}
		}
		c.Versions = append(c.Versions, v)
	}
	return c
}

// drop takes a piece from the last version, or the version itself if it has none.
func drop(c *api.Code) {
	last := &c.Versions[len(c.Versions)-1]
	for f := range last.Lines {
		for g, l := range last.Lines[f] {
			if len(l) > 0 {
				last.Lines[f][g] = l[:len(l)-1]
				return
			}
		}
	}
	c.Versions = c.Versions[:len(c.Versions)-1]
}

// longText is a code whose text has just so many bytes.
func longText(t *testing.T, n int) api.Code {
	c := great()
	for i := range c.Versions {
		c.Versions[i].Puts = nil
	}
	for len(written(c)) > n {
		drop(&c)
	}
	last := &c.Versions[len(c.Versions)-1]
	for len(written(c)) <= n-len("put 1\n") {
		last.Puts = append(last.Puts, api.Put{Group: 1})
	}
	c.Name += strings.Repeat("y", n-len(written(c)))
	if code.Check(c) != api.OK || len(written(c)) != n {
		t.Fatal("the text has", len(written(c)), "bytes, not", n)
	}
	return c
}

func TestPrintLong(t *testing.T) {
	c := longText(t, 20000)
	text, e := code.Print(c)
	if e != api.OK || text != written(c) {
		t.Error(len(text), e)
	}
	if d, n, e := code.Parse(text); e != api.OK || n != 0 || !same(c, d) {
		t.Error(n, e)
	}
	for _, c := range []api.Code{longText(t, 20001), great()} {
		if text, e := code.Print(c); e != api.ErrLong || text != "" {
			t.Error(len(text), e)
		}
	}
}

func TestPrintInvalid(t *testing.T) {
	for _, c := range invalidCodes() {
		if text, e := code.Print(c); e != api.ErrCode || text != "" {
			t.Error(c, text, e)
		}
	}
	c := great()
	c.Name = ""
	if text, e := code.Print(c); e != api.ErrCode || text != "" {
		t.Error(len(text), e)
	}
}
