package desk

import (
	"cmp"
	"slices"

	"moorsom/api"
	"moorsom/code"
	"moorsom/dues"
)

func done() []string { return []string{"ok"} }

// more is a list with one item more.
func more[T any](list []T, item T, most int) []T {
	needs(len(list) < most, api.ErrLong)
	return append(list, item)
}

// code sets the law of a flag.
func (t *task) code() []string {
	c, _, e := code.Parse(t.Texts[0])
	need(e)
	law := api.Law{Flag: t.the("FLAG"), Code: c}
	needs(inside(law.Flag, 1, api.MaxFlag), api.ErrArg)
	i, found := slices.BinarySearchFunc(t.laws, law.Flag, func(l api.Law, flag int) int { return cmp.Compare(l.Flag, flag) })
	if found {
		t.laws[i] = law
		return done()
	}
	needs(len(t.laws) < api.MaxCodes, api.ErrLong)
	t.laws = slices.Insert(t.laws, i, law)
	return done()
}

func (t *task) passage() []string {
	p := api.Passage{
		Id: t.the("ID"), Ship: t.the("SHIP"), Day: t.the("DAY"), Known: t.the("KNOWN"), Rate: t.the("RATE"),
	}
	t.passages = must(dues.Add(api.Files{Laws: t.laws, Passages: t.passages}, p)).Passages
	return done()
}

// newLines begins lines anew.
func (t *task) newLines() []string {
	t.lines = api.Lines{Length: t.the("LENGTH"), Depth: t.the("DEPTH")}
	return done()
}

func (t *task) freeboard() []string {
	point := api.Freeboard{Length: t.the("LENGTH"), Least: t.the("LEAST")}
	t.lines.Table = more(t.lines.Table, point, api.MaxFreeboards)
	return done()
}

func (t *task) season() []string {
	s := api.Season{Zone: t.the("ZONE"), From: t.the("FROM"), To: t.the("TO"), Extra: t.the("EXTRA")}
	t.lines.Seasons = more(t.lines.Seasons, s, api.MaxSeasons)
	return done()
}

func (t *task) leg() []string {
	x := api.Leg{
		Zone: t.the("ZONE"), From: t.the("FROM"), To: t.the("TO"), Dense: t.span("DENSE"), Burn: t.span("BURN"),
	}
	t.legs = more(t.legs, x, api.MaxLegs)
	return done()
}

func (t *task) try() []string {
	reading := api.Try{Station: t.the("STATION"), Water: t.the("WATER"), Tolerance: t.the("TOLERANCE")}
	t.tries = more(t.tries, reading, api.MaxTries)
	return done()
}

func (t *task) clear() []string {
	t.legs, t.tries = nil, nil
	return done()
}
