package dues

import (
	"moorsom/api"
	"moorsom/code"
	"moorsom/life"
)

// A question asks what a ship is on a day, as known on a day.
type question struct{ ship, day, known int }

// An answer is a ship's flag and figures, or the error that says why there are
// none.
type answer struct {
	flag    int
	figures api.Figures
	e       api.Errno
}

// Facts are on what the litres of a room rest: the sources of its space, of
// its readings and of its comparisons. In files each source says one thing,
// and so it does in files of which events are left out.
type facts struct {
	sources [1 + api.MaxReadings + api.MaxCompares]int
}

// Litres are those of a room, or the error that says why there are none.
type litres struct {
	api.Range
	e api.Errno
}

// A book is valid files with what was computed from them.
type book struct {
	api.Files
	answers map[question]answer
	// Most rooms stay as they are from day to day, and to compute their litres
	// is what takes long.
	litres map[facts]litres
}

func newBook(f api.Files) *book {
	return &book{Files: f, answers: map[question]answer{}, litres: map[facts]litres{}}
}

// without is the book of the files without the event at a place.
func (b *book) without(at api.Place) (*book, api.Errno) {
	events, e := life.Without(b.Events, at)
	if e != api.OK {
		return nil, e
	}
	less := newBook(api.Files{Events: events, Laws: b.Laws, Passages: b.Passages})
	less.litres = b.litres
	return less, api.OK
}

// factsOf are those of a valid survey.
func factsOf(v api.Survey) facts {
	sources := []int{v.Space.Source}
	for _, r := range v.Readings {
		sources = append(sources, r.Source)
	}
	for _, c := range v.Compares {
		sources = append(sources, c.Source)
	}
	var f facts
	copy(f.sources[:], sources)
	return f
}

// litresOf are the litres of a room.
func (b *book) litresOf(c api.Cell) litres {
	key := factsOf(c.Survey)
	kept, found := b.litres[key]
	if !found {
		rooms, e := life.Rooms(api.State{Cells: []api.Cell{c}})
		kept.e = e
		if e == api.OK {
			kept.Range = rooms[0].Litres
		}
		b.litres[key] = kept
	}
	return kept
}

// rooms are those of a state, as life.Rooms tells them.
func (b *book) rooms(s api.State) ([]api.Room, api.Errno) {
	var rooms []api.Room
	for _, c := range s.Cells {
		l := b.litresOf(c)
		if l.e != api.OK {
			return nil, l.e
		}
		room := c.Room
		room.Litres = l.Range
		rooms = append(rooms, room)
	}
	return rooms, api.OK
}

// codeOf is the code of a flag.
func (b *book) codeOf(flag int) (api.Code, api.Errno) {
	for _, l := range b.Laws {
		if l.Flag == flag {
			return l.Code, api.OK
		}
	}
	return api.Code{}, api.ErrRule
}

// compute finds an answer.
func (b *book) compute(q question) answer {
	s, e := life.State(b.Events, q.ship, q.day, q.known)
	if e != api.OK {
		return answer{e: e}
	}
	c, e := b.codeOf(s.Flag)
	if e != api.OK {
		return answer{e: e}
	}
	rooms, e := b.rooms(s)
	if e != api.OK {
		return answer{e: e}
	}
	gross, e := code.Judge(c, q.day, api.Gross, rooms)
	if e != api.OK {
		return answer{e: e}
	}
	net, e := code.Judge(c, q.day, api.Net, rooms)
	if e != api.OK {
		return answer{e: e}
	}
	return answer{flag: s.Flag, figures: api.Figures{Gross: gross, Net: net}}
}

// answer is what is computed, once for each question.
func (b *book) answer(q question) answer {
	a, found := b.answers[q]
	if !found {
		a = b.compute(q)
		b.answers[q] = a
	}
	return a
}

// Figures returns the tonnages of a ship on a day, as known on a day.
func Figures(f api.Files, ship, day, known int) (api.Figures, api.Errno) {
	b, e := ofShip(f, ship, day, known)
	if e != api.OK {
		return api.Figures{}, e
	}
	a := b.answer(question{ship, day, known})
	return a.figures, a.e
}
