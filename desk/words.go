package desk

import (
	"strings"

	"moorsom/api"
)

const (
	quote  = '"'
	escape = '\\'
)

// A word is one of a line, with the place at which it begins. A quoted one is
// a quotation mark and the bytes that it stands for.
type word struct {
	text string
	at   int
}

func isPrintable(b byte) bool { return ' ' <= b && b <= '~' }

// isText reports whether a quoted word can stand for a text.
func isText(s string) bool {
	for i := range len(s) {
		if s[i] != '\n' && !isPrintable(s[i]) {
			return false
		}
	}
	return true
}

// escaped is the byte for which an escape with a byte behind it stands.
func escaped(b byte) (byte, bool) {
	switch b {
	case quote, escape:
		return b, true
	case 'n':
		return '\n', true
	}
	return 0, false
}

// Each of the following cuts the word that begins at a place of a line: it
// returns the word and the place behind it, or, if a byte may not stand where
// it stands, the place of the first such byte, and false.

func cutPlain(line string, at int) (string, int, bool) {
	end := at
	for ; end < len(line) && line[end] != ' '; end++ {
		if !isPrintable(line[end]) || line[end] == quote {
			return "", end, false
		}
	}
	return line[at:end], end, true
}

func cutQuoted(line string, at int) (string, int, bool) {
	text := []byte{quote}
	for i := at + 1; i < len(line); i++ {
		b := line[i]
		switch {
		case b == quote:
			isEnd := i+1 == len(line) || line[i+1] == ' '
			return string(text), i + 1, isEnd
		case b == escape:
			if i+1 == len(line) {
				return "", i, false
			}
			meant, isRight := escaped(line[i+1])
			if !isRight {
				return "", i, false
			}
			text = append(text, meant)
			i++ // to the byte that is escaped
		case !isPrintable(b):
			return "", i, false
		default:
			text = append(text, b)
		}
	}
	return "", at, false
}

// cutWords parts a line into its words.
func cutWords(line string) ([]word, int, api.Errno) {
	if len(line) > api.MaxLine {
		return nil, 0, api.ErrLong
	}
	var words []word
	for at := 0; at < len(line); {
		if line[at] == ' ' {
			at++
			continue
		}
		cut := cutPlain
		if line[at] == quote {
			cut = cutQuoted
		}
		text, next, isRight := cut(line, at)
		if !isRight {
			return nil, next, api.ErrWord
		}
		words = append(words, word{text, at})
		at = next
	}
	if len(words) > api.MaxWords {
		return nil, 0, api.ErrLong
	}
	return words, 0, api.OK
}

// Words parts a line into words.
func Words(line string) ([]string, int, api.Errno) {
	words, at, e := cutWords(line)
	var texts []string
	for _, w := range words {
		texts = append(texts, w.text)
	}
	return texts, at, e
}

// Quote makes a word of a text.
func Quote(s string) string {
	if !isText(s) {
		return ""
	}
	inner := strings.NewReplacer(`\`, `\\`, `"`, `\"`, "\n", `\n`).Replace(s)
	return `"` + inner + `"`
}
