package life

import (
	"slices"
	"strconv"
	"strings"

	"moorsom/api"
)

// A hand takes the numbers of a text, one after the other: that of a writer
// writes them, that of a reader sets them. So what a text has is said once.
type hand func(numbers ...*int)

// event takes the numbers of an event of a kind.
func (take hand) event(x *api.Event) {
	r, c := &x.Reading, &x.Compare
	switch x.Kind {
	case api.EvBuild:
		take(&x.Num)
		take.space(&x.Space)
	case api.EvRoom:
		take(&x.Num, &x.Opening, &x.Crew)
		take.space(&x.Space)
	case api.EvGone:
		take(&x.Room)
	case api.EvKind, api.EvOpening, api.EvCrew:
		take(&x.Room, &x.Num)
	case api.EvFlag:
		take(&x.Num)
	case api.EvRead:
		take(&x.Room, &r.Station, &r.Water, &r.Value, &r.Tolerance, &r.Tape)
	case api.EvTape:
		take(&c.Tape, &c.From, &c.To, &c.Lo, &c.Hi)
	}
}

func (take hand) space(s *api.Space) {
	take(&s.Id)
	s.Stations = take.places(s.Stations)
	s.Waters = take.places(s.Waters)
	take(&s.Fair.Along, &s.Fair.Up)
}

// places takes how many positions there are, and these; it returns them, as
// new memory.
func (take hand) places(known []int) []int {
	many := len(known)
	take(&many)
	places := slices.Clone(known)
	for i := range many {
		if i == len(places) { // a reader knows none yet
			places = append(places, 0)
		}
		take(&places[i])
	}
	return places
}

// A writer has the words of a text that is written.
type writer struct{ words []string }

func (w *writer) write(numbers ...*int) {
	for _, n := range numbers {
		w.words = append(w.words, strconv.Itoa(*n))
	}
}

// A reader has what is left of a text that is read.
type reader struct{ text string }

// A lack is what is wrong with a text: it lacks a number.
type lack struct{}

// read panics with a lack. It is not strict: whether the text is the one of
// its numbers is asked when all of them are read.
func (r *reader) read(numbers ...*int) {
	for _, n := range numbers {
		word, rest, _ := strings.Cut(r.text, " ")
		value, err := strconv.Atoi(word)
		if err != nil {
			panic(lack{})
		}
		*n, r.text = value, rest
	}
}

// recordKind is the kind of the record of an event of a kind.
func recordKind(kind int) int {
	if kind == api.EvWithdraw {
		return api.RecWithdraw
	}
	return api.RecEvent - 1 + kind
}

// eventKind is the kind of the event that a record of a kind tells; 0 if
// there is none.
func eventKind(kind int) int {
	for k := api.EvBuild; k <= api.EvWithdraw; k++ {
		if recordKind(k) == kind {
			return k
		}
	}
	return 0
}

// fill sets what an event has from what all events have: the texts do not
// tell it.
func fill(x *api.Event) {
	switch source := Source(x.At); x.Kind {
	case api.EvBuild, api.EvRoom:
		x.Space.Source = source
	case api.EvRead:
		x.Reading.Source, x.Reading.Day = source, x.Day
	case api.EvTape:
		x.Compare.Source = source
	}
}

// Write returns the record of an event.
func Write(x api.Event) (api.Record, api.Errno) {
	if e := CheckEvent(x); e != api.OK {
		return api.Record{}, e
	}
	var w writer
	hand(w.write).event(&x)
	return api.Record{
		At: x.At, Kind: recordKind(x.Kind), Ship: x.Ship, Day: x.Day, Known: x.Known,
		Of: x.Of, Text: strings.Join(w.words, " "),
	}, api.OK
}

// Read returns the event that a record tells.
func Read(r api.Record) (x api.Event, e api.Errno) {
	if len(r.Text) > api.MaxText { // as no event has it
		return api.Event{}, api.ErrEvent
	}
	defer func() {
		if recover() != nil {
			x, e = api.Event{}, api.ErrEvent
		}
	}()
	x = api.Event{At: r.At, Kind: eventKind(r.Kind), Ship: r.Ship, Day: r.Day, Known: r.Known, Of: r.Of}
	text := reader{r.Text}
	hand(text.read).event(&x)
	fill(&x)
	if written, e := Write(x); e != api.OK || written != r {
		return api.Event{}, api.ErrEvent
	}
	return x, api.OK
}
