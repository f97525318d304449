package weigh

import (
	"slices"
	"strconv"
	"strings"

	"moorsom/api"
)

const (
	maxText   = 4000 // bytes of a table's text
	maxDigits = 6    // of a number in it
)

// The words with which lines begin.
const (
	watersWord  = "waters"
	stationWord = "station"
)

// printLine writes a line with a word and numbers.
func printLine(b *strings.Builder, word string, numbers ...int) {
	b.WriteString(word)
	for _, n := range numbers {
		b.WriteByte(' ')
		b.WriteString(strconv.Itoa(n))
	}
	b.WriteByte('\n')
}

// Print writes a table as a text.
func Print(t api.Table) (string, api.Errno) {
	if e := CheckTable(t); e != api.OK {
		return "", e
	}
	var b strings.Builder
	printLine(&b, watersWord, t.Waters...)
	for station, row := range pairs(t.Stations, t.Halves) {
		printLine(&b, stationWord, slices.Concat([]int{station}, row)...)
	}
	return b.String(), api.OK
}

// wrongLine is the number of the line at which the reading of a text ends.
type wrongLine int

// linesOf parts a text into its lines.
func linesOf(text string) []string {
	lines := strings.Split(text, "\n")
	// Behind a line feed at the end there is no further line, and an empty text has none.
	if last := len(lines) - 1; lines[last] == "" {
		lines = lines[:last]
	}
	return lines
}

// wordsOf parts a line into its words; one that is a comment has none.
func wordsOf(line string) []string {
	if strings.HasPrefix(line, "#") {
		return nil
	}
	return strings.FieldsFunc(line, func(r rune) bool { return r == ' ' })
}

// number reads a number.
func number(word string) (int, bool) {
	if word == "" || len(word) > maxDigits || word[0] == '0' && word != "0" {
		return 0, false
	}
	n := 0
	for i := range len(word) {
		if word[i] < '0' || word[i] > '9' {
			return 0, false
		}
		n = 10*n + int(word[i]-'0')
	}
	return n, true
}

// numbersOf reads the numbers of a line that begins with a word; it panics
// with the number of the line if they are not as they must be.
func numbersOf(words []string, first string, line int) []int {
	if words[0] != first || len(words) < 2 {
		panic(wrongLine(line))
	}
	numbers := make([]int, 0, len(words)-1)
	for _, word := range words[1:] {
		n, ok := number(word)
		if !ok {
			panic(wrongLine(line))
		}
		numbers = append(numbers, n)
	}
	return numbers
}

// readTable reads a table; it panics with the number of the first wrong line.
func readTable(text string) api.Table {
	var t api.Table
	lines := linesOf(text)
	for i, line := range lines {
		words := wordsOf(line)
		if len(words) == 0 {
			continue
		}
		if len(t.Waters) == 0 {
			t.Waters = numbersOf(words, watersWord, i+1)
			continue
		}
		numbers := numbersOf(words, stationWord, i+1)
		if len(numbers) != 1+len(t.Waters) {
			panic(wrongLine(i + 1))
		}
		t.Stations = append(t.Stations, numbers[0])
		t.Halves = append(t.Halves, slices.Clone(numbers[1:]))
	}
	if len(t.Waters) == 0 {
		panic(wrongLine(len(lines) + 1))
	}
	return t
}

// Parse reads a table's text.
func Parse(text string) (t api.Table, line int, e api.Errno) {
	if len(text) > maxText {
		return api.Table{}, 0, api.ErrLong
	}
	defer func() {
		if wrong := recover(); wrong != nil {
			at, _ := wrong.(wrongLine)
			t, line, e = api.Table{}, int(at), api.ErrText
		}
	}()
	t = readTable(text)
	if e := CheckTable(t); e != api.OK {
		return api.Table{}, 0, e
	}
	return t, 0, api.OK
}
