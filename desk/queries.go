package desk

import (
	"moorsom/api"
	"moorsom/dues"
	"moorsom/life"
	"moorsom/mark"
	"moorsom/offsets"
	"moorsom/probe"
	"moorsom/register"
)

// What queries ask of the office that is asked, as the chapter calls it.

// events is E.
func (t *task) events() []api.Event { return must(Events(t.mine().Memory.Register)) }

// files is F.
func (t *task) files() api.Files {
	return api.Files{Events: t.events(), Laws: t.laws, Passages: t.passages}
}

// ship is S.
func (t *task) ship() api.State {
	return must(life.State(t.events(), t.the("SHIP"), t.the("DAY"), t.the("KNOWN")))
}

// survey is V.
func (t *task) survey() api.Survey {
	return must(life.Survey(t.events(), t.the("SHIP"), t.the("ROOM"), t.the("DAY"), t.the("KNOWN")))
}

// route is R.
func (t *task) route() api.Route { return api.Route{Legs: t.legs} }

// whole is the volume of a space up to its last waterline.
func whole(s api.Space) api.What { return api.What{Kind: api.WhatLitres, Water: len(s.Waters) - 1} }

func (t *task) state() []string {
	s := t.ship()
	rooms := must(life.Rooms(s))
	lines := []string{named("flag", s.Flag), named("hull", s.Hull.Space.Id, len(s.Hull.Readings))}
	return append(lines, each(rooms, ofRoom)...)
}

func (t *task) figures() []string {
	x := must(dues.Figures(t.files(), t.the("SHIP"), t.the("DAY"), t.the("KNOWN")))
	return []string{named("gross", x.Gross.Lo, x.Gross.Hi), named("net", x.Net.Lo, x.Net.Hi)}
}

func (t *task) certs() []string {
	return orNone(each(must(dues.Certs(t.files(), t.the("SHIP"), t.the("KNOWN"))), ofCert))
}

// needLease refuses a command, unless its office holds the lease.
func (t *task) needLease() {
	to, e := register.Holder(t.mine().Memory.Register, t.the("SHIP"), t.the("DAY"))
	if e == api.ErrNone {
		e = api.ErrLease
	}
	need(e)
	needs(to == t.the("OFFICE"), api.ErrLease)
}

func (t *task) issue() []string {
	t.needLease()
	fresh, gone, e := dues.Issued(t.files(), t.the("SHIP"), t.the("DAY"))
	need(e)
	lines := each(fresh, func(c api.Cert) string { return "more " + ofCert(c) })
	lines = append(lines, each(gone, func(c api.Cert) string { return "gone " + ofCert(c) })...)
	return orNone(lines)
}

func (t *task) due() []string {
	return []string{row(must(dues.Due(t.files(), t.the("ID"), t.the("KNOWN"))))}
}

func (t *task) ledger() []string {
	return orNone(each(must(dues.Ledger(t.files(), t.the("SHIP"), t.the("KNOWN"))), ofPost))
}

func (t *task) balance() []string {
	f := t.files()
	balance := must(dues.Balance(f, t.the("SHIP"), t.the("KNOWN")))
	return []string{row(balance, must(dues.Refunds(f, t.the("SHIP"), t.the("KNOWN"))))}
}

func (t *task) lineage() []string {
	return orNone(each(must(dues.Lineage(t.files(), t.the("SHIP"), t.the("DAY"), t.the("KNOWN"))), ofPlace))
}

func (t *task) moved() []string {
	at := api.Place{Office: t.the("FROM"), Seq: t.the("SEQ")}
	return orNone(each(must(dues.Moved(t.files(), t.the("SHIP"), t.the("KNOWN"), at)), ofCert))
}

// table has a line for each waterline, so that it is never empty.
func (t *task) table() []string { return each(must(mark.Table(t.ship().Hull)), ofRange) }

func (t *task) judge() []string {
	return []string{ofAnswer(must(mark.Judge(t.ship().Hull, t.lines, t.route(), t.span("MASS"))))}
}

func (t *task) sure() []string {
	return []string{row(must(mark.Sure(t.ship().Hull, t.lines, t.route())))}
}

func (t *task) sinks() []string {
	return ofWitness(must(mark.Sinks(t.ship().Hull, t.lines, t.route(), t.span("MASS"))))
}

// isHigh tells for which end a proof is asked.
func (t *task) isHigh() bool {
	needs(inside(t.the("HIGH"), 0, 1), api.ErrArg)
	return t.the("HIGH") == 1
}

func (t *task) prove() []string {
	v := t.survey()
	return ofProof(must(offsets.Prove(v, whole(v.Space), t.isHigh())))
}

func (t *task) fewest() []string {
	v := t.survey()
	q := must(Question(v, whole(v.Space), t.the("WIDTH")))
	pick := must(probe.Fewest(q, must(Probes(v, t.tries))))
	return []string{named("pick", pick.Probes...), named("width", pick.Width)}
}

func (t *task) clash() []string { return []string{row(must(offsets.Clash(t.survey()))...)} }

func (t *task) holder() []string {
	return []string{row(must(register.Holder(t.mine().Memory.Register, t.the("SHIP"), t.the("DAY"))))}
}

func (t *task) free() []string {
	g := t.mine().Memory.Register
	return orNone(each(must(register.Free(g, t.the("SHIP"), t.the("FROM"), t.the("TO"))), ofRange))
}

func (t *task) counts() []string {
	var lines []string
	for _, o := range t.offices {
		lines = append(lines, kept(o)...)
	}
	return lines
}
