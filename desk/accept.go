package desk

import (
	"strings"

	"moorsom/api"
	"moorsom/mark"
	"moorsom/offsets"
)

// A sheet is a paper that Open accepts: its lines, and the indices of those
// that are the lines of its script.
type sheet struct {
	lines []string
	asked []int
}

func newSheet(paper string) sheet {
	s := sheet{lines: linesOf(paper)}
	for i, line := range s.lines {
		if strings.HasPrefix(line, askedMark) {
			s.asked = append(s.asked, i)
		}
	}
	return s
}

// silent is the number of the first line of the script that says nothing; 0 if
// there is none.
func (s sheet) silent() int {
	for _, i := range s.asked {
		if !says(strings.TrimPrefix(s.lines[i], askedMark)) {
			return i + 1
		}
	}
	return 0
}

// number is that of the line of the script which has a number in it; 0 for 0.
func (s sheet) number(line int) int {
	if line == 0 {
		return 0
	}
	return s.asked[line-1] + 1
}

// told is the answer that stands behind a command, and the index at which it
// begins, if it has any lines.
func (s sheet) told(step int) ([]string, int) {
	from, to := s.asked[step]+1, len(s.lines)
	if step+1 < len(s.asked) {
		to = s.asked[step+1]
	}
	return each(s.lines[from:to], func(line string) string { return strings.TrimPrefix(line, toldMark) }), from
}

// wrong plays the steps of a sheet's script, and returns the number of the
// first line that is wrong; 0 if there is none.
func (s sheet) wrong(steps []step) int {
	if len(s.lines) > 0 && (len(s.asked) == 0 || s.asked[0] > 0) {
		return 1
	}
	d := New()
	for i, x := range steps {
		told, from := s.told(i)
		if at, isRight := d.check(x.command, told); !isRight {
			return from + at + 1
		}
	}
	return 0
}

// equal holds what is told against what is due. If they differ, it returns the
// index of the first line in which they do, which one of both may lack.
func equal(due, told []string) (int, bool) {
	for i := range max(len(due), len(told)) {
		if i >= len(due) || i >= len(told) || due[i] != told[i] {
			return i, false
		}
	}
	return 0, true
}

// check does a command and examines what is told of it. If that is wrong, it
// returns the index of the first line that is.
func (d *Desk) check(c api.Command, told []string) (int, bool) {
	due, e := d.do(c)
	at, isRight := equal(answered(due, e), told)
	if isRight || e != api.OK || c.Kind != api.CmdProve && c.Kind != api.CmdSinks {
		return at, isRight
	}
	// Such an answer is right or wrong as a whole.
	return 0, len(told) > 0 && d.shows(c, due, told)
}

// shows reports whether what is told shows what the answer that is due shows.
func (d *Desk) shows(c api.Command, due, told []string) bool {
	t, e := d.begin(c)
	if e != api.OK {
		return false
	}
	isShown, e := finish(func() bool {
		if c.Kind == api.CmdProve {
			return t.isProof(told)
		}
		return t.isWitness(due, told)
	})
	return e == api.OK && isShown
}

// isProof reports whether what is told is a proof for the end that is due.
func (t *task) isProof(told []string) bool {
	p, isRight := readProof(told)
	if !isRight {
		return false
	}
	v, high := t.survey(), t.isHigh()
	litres := must(offsets.Bound(v, whole(v.Space)))
	end := litres.Lo
	if high {
		end = litres.Hi
	}
	return offsets.CheckProof(v, whole(v.Space), high, end, p) == api.OK
}

// isWitness reports whether what is told is a witness for the leg that is due.
func (t *task) isWitness(due, told []string) bool {
	w, isRight := readWitness(told)
	if !isRight {
		return false
	}
	asked, _ := readWitness(due)
	return w.Leg == asked.Leg &&
		mark.CheckSinks(t.ship().Hull, t.lines, t.route(), t.span("MASS"), w) == api.OK
}

// Accept reports whether all that a transcript tells is so.
func Accept(paper string) (int, api.Errno) {
	text, _, line, e := Open(paper)
	if e != api.OK {
		return line, e
	}
	if isLong(text) {
		return 0, api.ErrLong
	}
	s := newSheet(paper)
	if line := s.silent(); line > 0 {
		return line, api.ErrPaper
	}
	steps, line, e := stepsOf(text)
	if e != api.OK {
		return s.number(line), e
	}
	if line := s.wrong(steps); line > 0 {
		return line, api.ErrTold
	}
	if paper != "" && !strings.HasSuffix(paper, "\n") {
		return len(s.lines), api.ErrTold
	}
	return 0, api.OK
}
