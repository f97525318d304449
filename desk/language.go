package desk

import (
	"slices"
	"strconv"
	"strings"

	"moorsom/api"
)

const maxNumber = 1000000000000 // and its negative is the least one

// remark begins a line that says nothing.
const remark = "#"

// A shape is what a command looks like: its word, the names of its numbers,
// and how many texts stand behind these.
type shape struct {
	kind  int
	word  string
	names string
	texts int
}

// shapes are those of all commands.
func shapes() []shape {
	return []shape{
		{api.CmdCode, "code", "FLAG", 1},
		{api.CmdPassage, "passage", "ID SHIP DAY KNOWN RATE", 0},
		{api.CmdLines, "lines", "LENGTH DEPTH", 0},
		{api.CmdFreeboard, "freeboard", "LENGTH LEAST", 0},
		{api.CmdSeason, "season", "ZONE FROM TO EXTRA", 0},
		{api.CmdLeg, "leg", "ZONE FROM TO DENSE DENSE BURN BURN", 0},
		{api.CmdTry, "try", "STATION WATER TOLERANCE", 0},
		{api.CmdClear, "clear", "", 0},
		{api.CmdBuild, "build", "OFFICE SHIP DAY KNOWN FLAG ROOM ALONG UP", 2},
		{api.CmdRoom, "room", "OFFICE SHIP DAY KNOWN KIND OPENING CREW ROOM ALONG UP", 2},
		{api.CmdGone, "gone", "OFFICE SHIP DAY KNOWN ROOM", 0},
		{api.CmdKind, "kind", "OFFICE SHIP DAY KNOWN ROOM NUM", 0},
		{api.CmdOpening, "opening", "OFFICE SHIP DAY KNOWN ROOM NUM", 0},
		{api.CmdCrew, "crew", "OFFICE SHIP DAY KNOWN ROOM NUM", 0},
		{api.CmdFlag, "flag", "OFFICE SHIP DAY KNOWN FLAG", 0},
		{api.CmdRead, "read", "OFFICE SHIP DAY KNOWN ROOM STATION WATER VALUE TOLERANCE TAPE", 0},
		{api.CmdTape, "tape", "OFFICE SHIP DAY KNOWN TAPE FROM TO LO HI", 0},
		{api.CmdWithdraw, "withdraw", "OFFICE KNOWN SEQ", 0},
		{api.CmdGrant, "grant", "OFFICE SHIP TO FROM UNTIL", 0},
		{api.CmdOffer, "offer", "FROM TO", 0},
		{api.CmdDeliver, "deliver", "N", 0},
		{api.CmdLose, "lose", "N", 0},
		{api.CmdDouble, "double", "N", 0},
		{api.CmdRestart, "restart", "OFFICE N N", 0},
		{api.CmdPack, "pack", "OFFICE", 0},
		{api.CmdState, "state", "OFFICE SHIP DAY KNOWN", 0},
		{api.CmdFigures, "figures", "OFFICE SHIP DAY KNOWN", 0},
		{api.CmdCerts, "certs", "OFFICE SHIP KNOWN", 0},
		{api.CmdIssue, "issue", "OFFICE SHIP DAY", 0},
		{api.CmdDue, "due", "OFFICE ID KNOWN", 0},
		{api.CmdLedger, "ledger", "OFFICE SHIP KNOWN", 0},
		{api.CmdBalance, "balance", "OFFICE SHIP KNOWN", 0},
		{api.CmdLineage, "lineage", "OFFICE SHIP DAY KNOWN", 0},
		{api.CmdMoved, "moved", "OFFICE SHIP KNOWN FROM SEQ", 0},
		{api.CmdTable, "table", "OFFICE SHIP DAY KNOWN", 0},
		{api.CmdJudge, "judge", "OFFICE SHIP DAY KNOWN MASS MASS", 0},
		{api.CmdSure, "sure", "OFFICE SHIP DAY KNOWN", 0},
		{api.CmdSinks, "sinks", "OFFICE SHIP DAY KNOWN MASS MASS", 0},
		{api.CmdProve, "prove", "OFFICE SHIP DAY KNOWN ROOM HIGH", 0},
		{api.CmdFewest, "fewest", "OFFICE SHIP DAY KNOWN ROOM WIDTH", 0},
		{api.CmdClash, "clash", "OFFICE SHIP DAY KNOWN ROOM", 0},
		{api.CmdHolder, "holder", "OFFICE SHIP DAY", 0},
		{api.CmdFree, "free", "OFFICE SHIP FROM TO", 0},
		{api.CmdCounts, "counts", "", 0},
	}
}

// shapeWhere is the first shape of which something is so.
func shapeWhere(isSo func(shape) bool) (shape, bool) {
	all := shapes()
	i := slices.IndexFunc(all, isSo)
	if i < 0 {
		return shape{}, false
	}
	return all[i], true
}

// numbers are the names of a shape's numbers, in order.
func (s shape) numbers() []string { return strings.Fields(s.names) }

// shapeOf is the shape of a command, if it is right.
func shapeOf(c api.Command) (shape, bool) {
	s, found := shapeWhere(func(s shape) bool { return s.kind == c.Kind })
	isRight := found && len(c.Args) == len(s.numbers()) && len(c.Texts) == s.texts &&
		!slices.ContainsFunc(c.Args, func(n int) bool { return !inside(n, -maxNumber, maxNumber) }) &&
		!slices.ContainsFunc(c.Texts, func(text string) bool { return !isText(text) })
	return s, isRight
}

// number reads a number.
func number(word string) (int, bool) {
	n, err := strconv.Atoi(word)
	// Of all that Atoi reads, a number is what would be written for it.
	return n, err == nil && strconv.Itoa(n) == word && inside(n, -maxNumber, maxNumber)
}

// read puts a word behind what a command has; it reports whether the word may
// stand there.
func (s shape) read(c *api.Command, w string) bool {
	text, isQuoted := strings.CutPrefix(w, string(quote))
	switch {
	case len(c.Args) < len(s.numbers()):
		n, isNumber := number(w)
		c.Args = append(c.Args, n)
		return isNumber
	case len(c.Texts) < s.texts:
		c.Texts = append(c.Texts, text)
		return isQuoted
	}
	return false
}

// command reads a line's words. If they are none of a command, it returns the
// place of the first wrong one; end is the place behind all of them.
func command(words []word, end int) (c api.Command, at int, isRight bool) {
	if len(words) == 0 {
		return api.Command{}, end, false
	}
	s, found := shapeWhere(func(s shape) bool { return s.word == words[0].text })
	if !found {
		return api.Command{}, words[0].at, false
	}
	c.Kind = s.kind
	for _, w := range words[1:] {
		if !s.read(&c, w.text) {
			return api.Command{}, w.at, false
		}
	}
	if len(c.Args) < len(s.numbers()) || len(c.Texts) < s.texts {
		return api.Command{}, end, false
	}
	return c, 0, true
}

// Parse reads a line.
func Parse(line string) (api.Command, int, api.Errno) {
	if len(line) <= api.MaxLine && strings.HasPrefix(line, remark) {
		return api.Command{}, len(line), api.ErrLine
	}
	words, at, e := cutWords(line)
	if e != api.OK {
		return api.Command{}, at, e
	}
	c, at, isRight := command(words, len(line))
	if !isRight {
		return api.Command{}, at, api.ErrLine
	}
	return c, 0, api.OK
}

// Print writes a command as a line.
func Print(c api.Command) (string, api.Errno) {
	s, isRight := shapeOf(c)
	if !isRight {
		return "", api.ErrLine
	}
	words := []string{named(s.word, c.Args...)}
	for _, text := range c.Texts {
		words = append(words, Quote(text))
	}
	line := strings.Join(words, " ")
	if len(line) > api.MaxLine {
		return "", api.ErrLong
	}
	return line, api.OK
}
