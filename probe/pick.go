package probe

import (
	"iter"
	"slices"

	"moorsom/api"
)

// choices yields all choices of so many probes, in order: each, and behind all
// that are as long those that are one longer, in the same order.
func choices(n int) iter.Seq[[]int] {
	return func(yield func([]int) bool) {
		ahead := [][]int{nil}
		for len(ahead) > 0 {
			choice := ahead[0]
			ahead = append(ahead[1:], longer(choice, n)...)
			if !yield(choice) {
				return
			}
		}
	}
}

// longer are the choices that begin with one and have one probe more.
func longer(choice []int, n int) [][]int {
	if len(choice) == api.MaxPicked {
		return nil
	}
	first := 0
	for _, i := range choice {
		first = i + 1
	}
	var l [][]int
	for i := first; i < n; i++ {
		l = append(l, slices.Concat(choice, []int{i}))
	}
	return l
}

// Choices returns all choices of probes, in order.
func Choices(n int) ([][]int, api.Errno) {
	if !inside(n, 0, api.MaxProbes) {
		return nil, api.ErrArg
	}
	return slices.Collect(choices(n)), api.OK
}

// of has the probes of a choice alone.
func (y pairs) of(choice ...int) pairs {
	alone := pairs{Ask: y.Ask}
	for _, i := range choice {
		alone.probes = append(alone.probes, y.probes[i])
	}
	return alone
}

// best returns the first probe that alone leaves the least width.
func (y pairs) best() (int, api.Errno) {
	var widths []int
	for i := range y.probes {
		p, e := y.of(i).worst()
		if e != api.OK {
			return 0, e
		}
		widths = append(widths, p.Bound)
	}
	if len(widths) == 0 {
		return 0, api.ErrNone
	}
	return slices.Index(widths, slices.Min(widths)), api.OK
}

// Best returns the probe that leaves the least width.
func Best(q api.Ask, l []api.Probe) (int, api.Errno) { return asked(q, l, pairs.best) }

// fewest returns the first choice that settles the question.
func (y pairs) fewest() (api.Pick, api.Errno) {
	pick, e := api.Pick{}, api.ErrWide
tries:
	for choice := range choices(len(y.probes)) {
		alone := y.of(choice...)
		t, failed := alone.show()
		switch {
		case failed != api.OK:
			e = failed
			break tries
		case alone.between(t) <= y.Width:
			pick.Probes = choice
			pick.Proof, e = alone.worst()
			break tries
		}
		pick.Fails = append(pick.Fails, t)
	}
	if e != api.OK {
		return api.Pick{}, e
	}
	pick.Width = pick.Proof.Bound
	return pick, api.OK
}

// Fewest returns the first choice of the fewest probes that settles a question in every outcome.
func Fewest(q api.Ask, l []api.Probe) (api.Pick, api.Errno) { return asked(q, l, pairs.fewest) }

// fails reports whether twins show that the probes do not settle the question.
func (y pairs) fails(t api.Twins) bool {
	width, e := y.checkTwins(t)
	return e == api.OK && width > y.Width
}

// settles reports whether a pick's proof shows that the probes do.
func (y pairs) settles(p api.Pick) bool {
	return p.Width <= y.Width && y.checkWorst(p.Width, p.Proof) == api.OK
}

// first reports whether a pick shows that its choice is the first one that
// settles the question.
func (y pairs) first(p api.Pick) bool {
	fails := p.Fails
	for choice := range choices(len(y.probes)) {
		alone := y.of(choice...)
		if slices.Equal(choice, p.Probes) {
			return len(fails) == 0 && alone.settles(p)
		}
		if len(fails) == 0 || !alone.fails(fails[0]) {
			return false
		}
		fails = fails[1:]
	}
	return false
}

// CheckPick reports whether a choice settles a question, and no earlier one does.
func CheckPick(q api.Ask, l []api.Probe, p api.Pick) api.Errno {
	if e := CheckProbes(q, l); e != api.OK {
		return e
	}
	if !(pairs{Ask: q, probes: l}).first(p) {
		return api.ErrPick
	}
	return api.OK
}
