package mark

import "moorsom/api"

// answer tells whether a leg that is measured keeps its mark.
func (x leg) answer() int {
	switch {
	case x.mass.Hi <= x.bears.Lo:
		return api.Yes
	case x.mass.Lo > x.bears.Hi:
		return api.No
	}
	return api.Maybe
}

// joined is the answer for all of what has these answers.
func joined(answers ...int) int {
	all := api.Yes
	for _, answer := range answers {
		switch answer {
		case api.No:
			return api.No
		case api.Maybe:
			all = api.Maybe
		}
	}
	return all
}

// Answers returns for each leg the answer whether the mark is kept.
func Answers(v api.Survey, l api.Lines, r api.Route, mass api.Range) ([]int, api.Errno) {
	y, e := measured(v, l, r, mass)
	if e != api.OK {
		return nil, e
	}
	var answers []int
	for _, x := range y.legs {
		answers = append(answers, x.answer())
	}
	return answers, api.OK
}

// Judge returns the answer whether a departure keeps the marks in all legs.
func Judge(v api.Survey, l api.Lines, r api.Route, mass api.Range) (int, api.Errno) {
	answers, e := Answers(v, l, r, mass)
	if e != api.OK {
		return 0, e
	}
	return joined(answers...), api.OK
}

// Sure returns the greatest mass with which a departure surely keeps the marks.
func Sure(v api.Survey, l api.Lines, r api.Route) (int, api.Errno) {
	y, e := measured(v, l, r, api.Range{})
	if e != api.OK {
		return 0, e
	}
	sure, burnt := api.MaxMass, 0
	for _, x := range y.legs {
		if x.bears.Lo < 0 { // no mass is that small, however much was burnt
			return 0, api.ErrNone
		}
		sure = min(sure, x.bears.Lo+burnt)
		burnt += x.Burn.Lo
	}
	return sure, api.OK
}
