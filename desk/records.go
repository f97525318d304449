package desk

import (
	"strings"

	"moorsom/api"
	"moorsom/life"
	"moorsom/register"
)

// mine is the office that does the command.
func (t *task) mine() api.Office { return t.offices[t.the("OFFICE")] }

// keep puts the office that did the command back.
func (t *task) keep(o api.Office) { t.offices[t.the("OFFICE")] = o }

// recorded is the answer of a command that made a record.
func recorded(r api.Record) []string { return []string{named("record", r.At.Office, r.At.Seq)} }

// numbersOf reads the numbers of a text. A line feed parts no words.
func numbersOf(text string) []int {
	words := strings.FieldsFunc(text, func(r rune) bool { return r == ' ' })
	needs(len(words) <= api.MaxWords, api.ErrText)
	var numbers []int
	for _, w := range words {
		n, isNumber := number(w)
		needs(isNumber, api.ErrText)
		numbers = append(numbers, n)
	}
	return numbers
}

// space is the new space that a command says.
func (t *task) space(source int) api.Space {
	return api.Space{
		Id: t.the("ROOM"), Source: source,
		Stations: numbersOf(t.Texts[0]), Waters: numbersOf(t.Texts[1]),
		Fair: api.Fair{Along: t.the("ALONG"), Up: t.the("UP")},
	}
}

func (t *task) reading(source int) api.Reading {
	return api.Reading{
		Source: source, Station: t.the("STATION"), Water: t.the("WATER"), Value: t.the("VALUE"),
		Tolerance: t.the("TOLERANCE"), Tape: t.the("TAPE"), Day: t.the("DAY"),
	}
}

func (t *task) compare(source int) api.Compare {
	return api.Compare{
		Source: source, Tape: t.the("TAPE"), From: t.the("FROM"), To: t.the("TO"), Lo: t.the("LO"), Hi: t.the("HI"),
	}
}

// event is the event that a command says, at a place.
func (t *task) event(at api.Place) api.Event {
	x := api.Event{
		// The kinds of these commands are in the order of those of events.
		At: at, Kind: t.Kind - api.CmdBuild + api.EvBuild,
		Ship: t.the("SHIP"), Day: t.the("DAY"), Known: t.the("KNOWN"),
		Num: t.the("FLAG", "KIND", "NUM"), Opening: t.the("OPENING"), Crew: t.the("CREW"),
	}
	switch source := life.Source(at); t.Kind {
	case api.CmdBuild, api.CmdRoom:
		x.Space = t.space(source)
	case api.CmdRead:
		x.Room, x.Reading = t.the("ROOM"), t.reading(source)
	case api.CmdTape:
		x.Compare = t.compare(source)
	case api.CmdWithdraw:
		x.Of = api.Place{Office: at.Office, Seq: t.the("SEQ")}
	default:
		x.Room = t.the("ROOM")
	}
	return x
}

// note writes the event that the command says.
func (t *task) note() []string {
	o := t.mine()
	at := api.Place{Office: t.the("OFFICE"), Seq: register.Next(o.Memory.Register, o.Me)}
	o, r, e := register.Note(o, must(life.Write(t.event(at))))
	need(e)
	t.keep(o)
	return recorded(r)
}

// grant gives a lease.
func (t *task) grant() []string {
	o, r, e := register.Grant(t.mine(), t.the("SHIP"), t.the("TO"), t.the("FROM"), t.the("UNTIL"))
	need(e)
	t.keep(o)
	return recorded(r)
}
