package desk

import (
	"slices"

	"moorsom/api"
	"moorsom/register"
)

// underWay is the answer of a command that changed what is under way.
func (t *task) underWay() []string { return []string{named("messages", len(t.wires))} }

// send puts messages behind those that are under way.
func (t *task) send(messages ...api.Message) {
	needs(len(t.wires)+len(messages) <= api.MaxWires, api.ErrLong)
	t.wires = append(t.wires, messages...)
}

// offer sends what another office may lack.
func (t *task) offer() []string {
	from := t.the("FROM")
	needs(isOffice(from), api.ErrArg)
	o, messages, e := register.Offer(t.offices[from], t.the("TO"))
	need(e)
	t.send(messages...)
	t.offices[from] = o
	return t.underWay()
}

// modulo is a modulo n, which is above 0.
func modulo(a, n int) int { return (a%n + n) % n }

// chosen is the index of the message that the command means.
func (t *task) chosen() int {
	needs(len(t.wires) > 0, api.ErrNone)
	return modulo(t.the("N"), len(t.wires))
}

// take takes the message that the command means from those under way.
func (t *task) take() api.Message {
	i := t.chosen()
	m := t.wires[i]
	t.wires = slices.Delete(t.wires, i, i+1)
	return m
}

// deliver hands a message over; it is gone also where it is refused.
func (t *task) deliver() []string {
	m := t.take()
	o, answers, e := register.Receive(t.offices[m.To], m)
	need(e)
	t.send(answers...)
	t.offices[m.To] = o
	return t.underWay()
}

func (t *task) lose() []string {
	t.take()
	return t.underWay()
}

func (t *task) double() []string {
	t.send(t.wires[t.chosen()])
	return t.underWay()
}

// kept is the answer of a command that wrote a drive anew.
func kept(o api.Office) []string { return []string{named("records", len(o.Memory.Register.Records))} }

// restart is a failure of the power.
func (t *task) restart() []string {
	survives := t.span("N")
	o := must(register.Restart(t.mine(), [2]int{survives.Lo, survives.Hi}))
	t.keep(o)
	return kept(o)
}

func (t *task) pack() []string {
	o := t.mine()
	way, memory, e := register.Pack(o.Drive, o.Memory)
	need(e)
	o.Drive, o.Memory = way[len(way)-1], memory
	t.keep(o)
	return kept(o)
}
