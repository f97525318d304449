package desk

import (
	"strings"

	"moorsom/api"
)

// What stands ahead of a command and of a line of its answer in a transcript.
const (
	askedMark = "> "
	toldMark  = "< "
)

// linesOf parts a text into its lines.
func linesOf(text string) []string {
	// Behind a line feed at the end there is no further line, and an empty text has none.
	if text == "" {
		return nil
	}
	return strings.Split(strings.TrimSuffix(text, "\n"), "\n")
}

// says reports whether a line says something.
func says(line string) bool {
	return !strings.HasPrefix(line, remark) && strings.Trim(line, " ") != ""
}

// isLong reports whether a script has too many bytes.
func isLong(text string) bool { return len(strings.TrimSuffix(text, "\n")) > api.MaxScript }

// A step is a line of a script that says something.
type step struct {
	line    string
	command api.Command
}

// stepsOf reads a script.
func stepsOf(text string) ([]step, int, api.Errno) {
	if isLong(text) {
		return nil, 0, api.ErrLong
	}
	var steps []step
	wrong, first := 0, api.OK
	for i, line := range linesOf(text) {
		if !says(line) {
			continue
		}
		c, _, e := Parse(line)
		if first == api.OK && e != api.OK {
			wrong, first = i+1, e
		}
		steps = append(steps, step{line, c})
	}
	switch {
	case len(steps) > api.MaxLines: // which is told ahead of what is wrong in them
		return nil, 0, api.ErrLong
	case first != api.OK:
		return nil, wrong, first
	}
	return steps, 0, api.OK
}

// play runs a script at a new desk, and tells of each step with its answer.
func play(text string, tell func(s step, answer []string)) (int, api.Errno) {
	steps, line, e := stepsOf(text)
	if e != api.OK {
		return line, e
	}
	d := New()
	for _, s := range steps {
		tell(s, d.Do(s.command))
	}
	return 0, api.OK
}

// write writes lines, each with a mark ahead of it.
func write(b *strings.Builder, mark string, lines ...string) {
	for _, line := range lines {
		b.WriteString(mark)
		b.WriteString(line)
		b.WriteByte('\n')
	}
}

// Run runs a script.
func Run(text string) (string, int, api.Errno) {
	var told strings.Builder
	line, e := play(text, func(_ step, answer []string) { write(&told, "", answer...) })
	return told.String(), line, e
}

// Transcript returns the transcript of a script.
func Transcript(text string) (string, int, api.Errno) {
	var paper strings.Builder
	line, e := play(text, func(s step, answer []string) {
		write(&paper, askedMark, s.line)
		write(&paper, toldMark, answer...)
	})
	if e != api.OK {
		return "", line, e
	}
	if paper.Len() > api.MaxPaper {
		return "", 0, api.ErrLong
	}
	return paper.String(), 0, api.OK
}

// Open returns the script of a transcript, and what it tells.
func Open(paper string) (text, told string, line int, e api.Errno) {
	if len(paper) > api.MaxPaper {
		return "", "", 0, api.ErrLong
	}
	var commands, answers strings.Builder
	for i, l := range linesOf(paper) {
		command, isAsked := strings.CutPrefix(l, askedMark)
		answer, isTold := strings.CutPrefix(l, toldMark)
		switch {
		case isAsked:
			write(&commands, "", command)
		case isTold:
			write(&answers, "", answer)
		default:
			return "", "", i + 1, api.ErrPaper
		}
	}
	return commands.String(), answers.String(), 0, api.OK
}
