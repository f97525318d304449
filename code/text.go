package code

import (
	"slices"
	"strconv"
	"strings"

	"moorsom/api"
)

const maxDigits = 13 // of a number in a code's text

// The words with which lines begin; those of formulas are in formulaWords.
const (
	codeWord    = "code"
	versionWord = "version"
	putWord     = "put"
)

// formulaWords has the words of the formulas, by their indices.
func formulaWords() []string { return []string{gross: "gross", net: "net"} }

// ofWords has the words of what a test looks at.
func ofWords() []string {
	return []string{api.OfKind: "kind", api.OfOpening: "opening", api.OfCrew: "crew"}
}

// howWords has the words of how a test compares.
func howWords() []string {
	return []string{
		api.Less: "<", api.AtMost: "<=", api.Equal: "=", api.Unequal: "!=", api.AtLeast: ">=", api.More: ">",
	}
}

// printLine writes a line of words.
func printLine(b *strings.Builder, words ...string) {
	b.WriteString(strings.Join(words, " "))
	b.WriteByte('\n')
}

// putWords returns the words of a put's line.
func putWords(p api.Put) []string {
	words := []string{putWord, strconv.Itoa(p.Group)}
	for _, t := range p.Tests {
		words = append(words, ofWords()[t.Of], howWords()[t.How], strconv.Itoa(t.Num))
	}
	return words
}

// printVersion writes the lines of a version.
func printVersion(b *strings.Builder, v api.Version) {
	printLine(b, versionWord, strconv.Itoa(v.From))
	for _, p := range v.Puts {
		printLine(b, putWords(p)...)
	}
	for formula, word := range formulaWords() {
		for g, pieces := range v.Lines[formula] {
			for _, p := range pieces {
				printLine(b, word, strconv.Itoa(g+1), strconv.Itoa(p.From), strconv.Itoa(p.Base), strconv.Itoa(p.Rate))
			}
		}
	}
}

// Print writes a code as a text.
func Print(c api.Code) (string, api.Errno) {
	if e := Check(c); e != api.OK {
		return "", e
	}
	var b strings.Builder
	printLine(&b, codeWord, c.Name)
	for _, v := range c.Versions {
		printVersion(&b, v)
	}
	if b.Len() > api.MaxCodeText {
		return "", api.ErrLong
	}
	return b.String(), api.OK
}

// linesOf parts a text into its lines.
func linesOf(text string) []string {
	lines := strings.Split(text, "\n")
	// Behind a line feed at the end there is no further line, and an empty text has none.
	if last := len(lines) - 1; lines[last] == "" {
		lines = lines[:last]
	}
	return lines
}

// wordsOf parts a line into its words; one that is a comment has none.
func wordsOf(line string) []string {
	if strings.HasPrefix(line, "#") {
		return nil
	}
	return strings.FieldsFunc(line, func(r rune) bool { return r == ' ' })
}

// number reads a number without a sign.
func number(word string) (int, bool) {
	if word == "" || len(word) > maxDigits || word[0] == '0' && word != "0" || !allOf([]byte(word), isDigit) {
		return 0, false
	}
	n, err := strconv.Atoi(word)
	return n, err == nil
}

// signed reads a number that may have a minus sign.
func signed(word string) (int, bool) {
	digits, isBelow := strings.CutPrefix(word, "-")
	n, ok := number(digits)
	if isBelow {
		return -n, n > 0
	}
	return n, ok
}

// A reader has what the lines of a code's text have said so far.
type reader struct{ code api.Code }

// last is the version to which lines belong; nil ahead of all versions.
func (r *reader) last() *api.Version {
	if len(r.code.Versions) == 0 {
		return nil
	}
	return &r.code.Versions[len(r.code.Versions)-1]
}

// read reads a line that says something; it reports whether the line may
// stand there.
func (r *reader) read(words []string) bool {
	first, rest := words[0], words[1:]
	if r.code.Name == "" {
		return first == codeWord && r.readName(rest)
	}
	if first == versionWord {
		return r.readVersion(rest)
	}
	v := r.last()
	if v == nil {
		return false
	}
	if first == putWord {
		return readPut(v, rest)
	}
	formula := slices.Index(formulaWords(), first)
	return formula >= 0 && readPiece(&v.Lines[formula], rest)
}

func (r *reader) readName(words []string) bool {
	if len(words) != 1 {
		return false
	}
	r.code.Name = words[0]
	return true
}

func (r *reader) readVersion(words []string) bool {
	if len(words) != 1 {
		return false
	}
	from, ok := number(words[0])
	r.code.Versions = append(r.code.Versions, api.Version{From: from})
	return ok
}

// readTest reads the three words of a test.
func readTest(words []string) (api.Test, bool) {
	t := api.Test{Of: slices.Index(ofWords(), words[0]), How: slices.Index(howWords(), words[1])}
	num, ok := number(words[2])
	t.Num = num
	return t, ok && t.Of > 0 && t.How > 0
}

func readPut(v *api.Version, words []string) bool {
	if len(words)%3 != 1 {
		return false
	}
	group, ok := number(words[0])
	if !ok {
		return false
	}
	p := api.Put{Group: group}
	for three := range slices.Chunk(words[1:], 3) {
		t, ok := readTest(three)
		if !ok {
			return false
		}
		p.Tests = append(p.Tests, t)
	}
	v.Puts = append(v.Puts, p)
	return true
}

// readPiece reads a piece of one of a formula's lines.
func readPiece(lines *[api.MaxGroups][]api.Piece, words []string) bool {
	if len(words) != 4 {
		return false
	}
	group, isGroup := number(words[0])
	from, isFrom := number(words[1])
	base, isBase := signed(words[2])
	rate, isRate := signed(words[3])
	if !isGroup || !isFrom || !isBase || !isRate || !inside(group, 1, api.MaxGroups) {
		return false
	}
	pieces := &lines[group-1]
	*pieces = append(*pieces, api.Piece{From: from, Base: base, Rate: rate})
	return true
}

// Parse reads a code's text.
func Parse(text string) (api.Code, int, api.Errno) {
	if len(text) > api.MaxCodeText {
		return api.Code{}, 0, api.ErrLong
	}
	var r reader
	lines := linesOf(text)
	for i, line := range lines {
		words := wordsOf(line)
		if len(words) > 0 && !r.read(words) {
			return api.Code{}, i + 1, api.ErrText
		}
	}
	if r.code.Name == "" {
		return api.Code{}, len(lines) + 1, api.ErrText
	}
	if e := Check(r.code); e != api.OK {
		return api.Code{}, 0, e
	}
	return r.code, 0, api.OK
}
