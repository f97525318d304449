package desk

import (
	"slices"

	"moorsom/api"
)

// A task is a command that is being done at a desk. It changes the desk last,
// when nothing can be wrong any more.
type task struct {
	*Desk
	api.Command
	names []string // of the numbers
}

// A refusal is the error for which a command is refused: a panic with it ends
// the task.
type refusal api.Errno

// need refuses the command, unless an error is OK.
func need(e api.Errno) {
	if e != api.OK {
		panic(refusal(e))
	}
}

// needs refuses the command, unless something is so.
func needs(isSo bool, e api.Errno) {
	if !isSo {
		need(e)
	}
}

// must returns a result, unless there is an error.
func must[T any](result T, e api.Errno) T {
	need(e)
	return result
}

// the returns the number that has one of these names; 0 if there is none.
func (t *task) the(names ...string) int {
	for i, n := range t.Args {
		if slices.Contains(names, t.names[i]) {
			return n
		}
	}
	return 0
}

// span returns the two numbers of one name.
func (t *task) span(name string) api.Range {
	i := slices.Index(t.names, name)
	return api.Range{Lo: t.Args[i], Hi: t.Args[i+1]}
}

// ways tells what commands do, by their kinds.
func (t *task) ways() map[int]func() []string {
	return map[int]func() []string{
		api.CmdCode:      t.code,
		api.CmdPassage:   t.passage,
		api.CmdLines:     t.newLines,
		api.CmdFreeboard: t.freeboard,
		api.CmdSeason:    t.season,
		api.CmdLeg:       t.leg,
		api.CmdTry:       t.try,
		api.CmdClear:     t.clear,
		api.CmdBuild:     t.note,
		api.CmdRoom:      t.note,
		api.CmdGone:      t.note,
		api.CmdKind:      t.note,
		api.CmdOpening:   t.note,
		api.CmdCrew:      t.note,
		api.CmdFlag:      t.note,
		api.CmdRead:      t.note,
		api.CmdTape:      t.note,
		api.CmdWithdraw:  t.note,
		api.CmdGrant:     t.grant,
		api.CmdOffer:     t.offer,
		api.CmdDeliver:   t.deliver,
		api.CmdLose:      t.lose,
		api.CmdDouble:    t.double,
		api.CmdRestart:   t.restart,
		api.CmdPack:      t.pack,
		api.CmdState:     t.state,
		api.CmdFigures:   t.figures,
		api.CmdCerts:     t.certs,
		api.CmdIssue:     t.issue,
		api.CmdDue:       t.due,
		api.CmdLedger:    t.ledger,
		api.CmdBalance:   t.balance,
		api.CmdLineage:   t.lineage,
		api.CmdMoved:     t.moved,
		api.CmdTable:     t.table,
		api.CmdJudge:     t.judge,
		api.CmdSure:      t.sure,
		api.CmdSinks:     t.sinks,
		api.CmdProve:     t.prove,
		api.CmdFewest:    t.fewest,
		api.CmdClash:     t.clash,
		api.CmdHolder:    t.holder,
		api.CmdFree:      t.free,
		api.CmdCounts:    t.counts,
	}
}

// begin makes a task of a command that may be done.
func (d *Desk) begin(c api.Command) (*task, api.Errno) {
	s, isRight := shapeOf(c)
	if d == nil || !isRight {
		return nil, api.ErrLine
	}
	t := &task{Desk: d, Command: c, names: s.numbers()}
	if !isOffice(t.the("OFFICE")) {
		return nil, api.ErrArg
	}
	return t, api.OK
}

// finish does what a task is to do, or returns the error for which it is
// refused.
func finish[T any](do func() T) (result T, e api.Errno) {
	defer func() {
		if left := recover(); left != nil {
			refused, _ := left.(refusal)
			e = api.Errno(refused)
		}
	}()
	return do(), api.OK
}

// do does a command, and returns its answer, or the error for which it is
// refused.
func (d *Desk) do(c api.Command) ([]string, api.Errno) {
	t, e := d.begin(c)
	if e != api.OK {
		return nil, e
	}
	return finish(t.ways()[c.Kind])
}

// Do does a command.
func (d *Desk) Do(c api.Command) []string {
	answer, e := d.do(c)
	return answered(answer, e)
}

// answered is an answer, or what is told in the place of one.
func answered(answer []string, e api.Errno) []string {
	if e != api.OK {
		return []string{named("error", int(e))}
	}
	return answer
}
