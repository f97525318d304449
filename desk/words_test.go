package desk_test

import (
	"math/rand"
	"regexp"
	"strings"
	"testing"

	"moorsom/api"
	"moorsom/desk"
)

// TestWords is P10.2 for Words: what a line is cut into.
func TestWords(t *testing.T) {
	for line, want := range map[string][]string{
		"":                       nil,
		"   ":                    nil,
		"a":                      {"a"},
		"  a   b1  ":             {"a", "b1"},
		"# a":                    {"#", "a"},
		"!~ -0 \\n":              {"!~", "-0", `\n`},
		`a\b`:                    {`a\b`},
		`""`:                     {`"`},
		`"a  b"   c`:             {`"a  b`, "c"},
		`x " #~"`:                {"x", `" #~`},
		`"\"\\\n"`:               {"\"\"\\\n"},
		`"\\" "\\\\"`:            {`"\`, `"\\`},
		`"\\\"" "\"\\"`:          {`"\"`, `""\`},
		`"\\n\n" n`:              {"\"\\n\n", "n"},
		strings.Repeat("a ", 20): strings.Fields(strings.Repeat("a ", 20)),
	} {
		if words, at, e := desk.Words(line); e != api.OK || at != 0 || !same(words, want) {
			t.Errorf("%q: %q, %d, %d; want %q", line, words, at, e, want)
		}
	}
}

// TestWordsWrong is P10.2 for Words: the first byte that may not stand where
// it stands.
func TestWordsWrong(t *testing.T) {
	for line, want := range map[string]int{
		"a\tb":               1,
		"\n":                 0,
		"ab \n":              3,
		"a\r":                1,
		"\x00":               0,
		" \x1f":              1,
		"a \x7f":             2,
		"a\x80":              1,
		"\xff":               0,
		"caf\u00e9":          3,
		`a"b`:                1,
		`a"`:                 1,
		`a "b"c`:             5,
		`"a""b"`:             3,
		`"a"` + "\t":         3,
		`"a\x"`:              2,
		`"a\N" "`:            2,
		`"a\ "`:              2,
		`"a\`:                2,
		`"a\\\`:              4,
		"\"a\\\n":            2,
		`"abc`:               0,
		`  "abc`:             2,
		`"`:                  0,
		`"a\"`:               0,
		`"a" "b\"`:           4,
		`"a" b "c d e f`:     6,
		"\"a\x01":            2,
		"x \"ab\n":           5,
		"\"\x7f\"":           1,
		"\"a\x80":            2,
		"\"\\\"\t":           3,
		"a\x01 \x02":         1,
		`"a\q` + "\x01":      2,
		`"ab` + "\x01" + `\`: 3,
	} {
		if words, at, e := desk.Words(line); e != api.ErrWord || at != want || len(words) != 0 {
			t.Errorf("%q: %q, %d, %d; want %d", line, words, at, e, want)
		}
	}
}

// TestWordsLong is P10.2 for Words: a line that is too long, ahead of a wrong
// byte, ahead of too many words.
func TestWordsLong(t *testing.T) {
	long := strings.Repeat("a", api.MaxLine)
	if words, at, e := desk.Words(long); e != api.OK || at != 0 || !same(words, []string{long}) {
		t.Error(len(words), at, e)
	}
	for _, line := range []string{long + "a", long + " ", long + "\t", "\t" + long, strings.Repeat(" ", 8001)} {
		if words, at, e := desk.Words(line); e != api.ErrLong || at != 0 || len(words) != 0 {
			t.Error(len(words), at, e)
		}
	}
	many := strings.Repeat("a ", api.MaxWords) + "a"
	if words, at, e := desk.Words(many); e != api.ErrLong || at != 0 || len(words) != 0 {
		t.Error(words, at, e)
	}
	if words, at, e := desk.Words(many + "\t"); e != api.ErrWord || at != len(many) || len(words) != 0 {
		t.Error(words, at, e)
	}
	if words, at, e := desk.Words(many + ` "a`); e != api.ErrWord || at != len(many)+1 || len(words) != 0 {
		t.Error(words, at, e)
	}
}

// whatWords tells by a pattern whether all of a line is words.
var whatWords = regexp.MustCompile(`^ *(?:(?:"(?:[\x20\x21\x23-\x5b\x5d-\x7e]|\\["\\n])*"|[\x21\x23-\x7e]+)(?: +|$))*$`)

// what is a word of a line that is right.
var whatWord = regexp.MustCompile(`"(?:[^"\\]|\\.)*"|[^ ]+`)

// isStart reports whether a line is the beginning of one that is words.
func isStart(line string) bool {
	return whatWords.MatchString(line) || whatWords.MatchString(line+`"`) || whatWords.MatchString(line+`n"`)
}

// isEscape reports whether a beginning ends with an escape.
func isEscape(line string) bool {
	return !whatWords.MatchString(line) && !whatWords.MatchString(line+`"`)
}

// wrongAt finds the first wrong byte of a line by the pattern alone.
func wrongAt(line string) (int, bool) {
	if whatWords.MatchString(line) {
		return 0, false
	}
	if isStart(line) && !isEscape(line) { // a quoted word without an end
		for i := len(line); ; i-- {
			if whatWords.MatchString(line[:i]) {
				return i, true
			}
		}
	}
	at := 0
	for at < len(line) && isStart(line[:at+1]) {
		at++
	}
	if isEscape(line[:at]) {
		at--
	}
	return at, true
}

// anyLine is one that is often right.
func anyLine(r *rand.Rand, many int) string {
	pieces := []string{`"`, `"`, `"`, `\`, `\"`, `\\`, `\n`, " ", " ", "  ", "n", "a", "7", "-", "x y", "#", `""`, `"a"`}
	if r.Intn(3) == 0 {
		pieces = append(pieces, "\t", "\n", "\x7f", "\x80", "\u00e9")
	}
	line := ""
	for range r.Intn(many) {
		line += pieces[r.Intn(len(pieces))]
	}
	return line
}

// TestWordsAny is P10.2 for Words: by a pattern, of many lines.
func TestWordsAny(t *testing.T) {
	r := rand.New(rand.NewSource(101))
	right := 0
	for range 40000 {
		line := anyLine(r, 12)
		words, at, e := desk.Words(line)
		if wrong, isWrong := wrongAt(line); isWrong {
			if e != api.ErrWord || at != wrong || len(words) != 0 {
				t.Fatalf("%q: %q, %d, %d; want %d", line, words, at, e, wrong)
			}
			continue
		}
		right++
		var want []string
		for _, w := range whatWord.FindAllString(line, -1) {
			if inner, isQuoted := strings.CutPrefix(w, `"`); isQuoted {
				w = `"` + strings.NewReplacer(`\\`, `\`, `\"`, `"`, `\n`, "\n").Replace(inner[:len(inner)-1])
			}
			want = append(want, w)
		}
		if e != api.OK || at != 0 || !same(words, want) {
			t.Fatalf("%q: %q, %d, %d; want %q", line, words, at, e, want)
		}
	}
	if right < 5000 {
		t.Error("few lines are right:", right)
	}
}

// TestQuote is P10.2 for Quote.
func TestQuote(t *testing.T) {
	for s, want := range map[string]string{
		"":             `""`,
		"a b":          `"a b"`,
		" ~":           `" ~"`,
		`"`:            `"\""`,
		`\`:            `"\\"`,
		"\n":           `"\n"`,
		"\\n\"\n":      `"\\n\"\n"`,
		"\t":           "",
		"a\x7f":        "",
		"a\x80":        "",
		"\x1f":         "",
		"\r\n":         "",
		"a\u00e9":      "",
		"ab\nc\x00def": "",
	} {
		if got := desk.Quote(s); got != want {
			t.Errorf("%q: %q; want %q", s, got, want)
		}
	}
}

// TestQuoteAny: a quoted word is one word, which stands for its text.
func TestQuoteAny(t *testing.T) {
	r := rand.New(rand.NewSource(102))
	for range 5000 {
		b := make([]byte, r.Intn(9))
		for i := range b {
			b[i] = "\n\"\\ na~!\n\""[r.Intn(10)]
		}
		s := string(b)
		for _, line := range []string{desk.Quote(s), "x  " + desk.Quote(s) + " y"} {
			words, at, e := desk.Words(line)
			if e != api.OK || at != 0 || !strings.Contains(strings.Join(words, "|"), `"`+s) {
				t.Fatalf("%q: %q, %q, %d, %d", s, line, words, at, e)
			}
		}
		if words, _, _ := desk.Words(desk.Quote(s)); len(words) != 1 || words[0] != `"`+s {
			t.Fatalf("%q: %q", s, words)
		}
	}
}
