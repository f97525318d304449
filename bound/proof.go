package bound

import (
	"slices"

	"moorsom/api"
)

// Prove returns a proof of the greatest sum.
func Prove(s api.System, w []int) (api.Proof, api.Errno) {
	f, e := solve(s, w)
	if e != api.OK {
		return api.Proof{}, e
	}
	return f.proof(), api.OK
}

// proof is what a flow shows.
func (f *flow) proof() api.Proof {
	p := api.Proof{Bound: f.sum()}
	for i, n := range f.times {
		if n > 0 {
			p.Uses = append(p.Uses, api.Use{Limit: i, Times: n})
		}
	}
	return p
}

// CheckProof reports whether a proof shows that a sum is at most its bound.
func CheckProof(s api.System, w []int, p api.Proof) api.Errno {
	if e := checkWeights(s, w); e != api.OK {
		return e
	}
	if len(p.Uses) > api.MaxUses || !addsUp(s, w, p) {
		return api.ErrProof
	}
	return api.OK
}

// addsUp reports whether the limits that a proof uses are some, rising, and
// add up to the weights and to its bound.
func addsUp(s api.System, w []int, p api.Proof) bool {
	missing := slices.Clone(w)
	before, all, sum := none, 0, 0
	for _, u := range p.Uses {
		if !inside(u.Limit, before+1, len(s.Limits)-1) || !inside(u.Times, 1, api.MaxSum) {
			return false
		}
		before = u.Limit
		// All together are examined on the way: so the sum stays an int.
		if all += u.Times; all > api.MaxUnknowns*api.MaxSum {
			return false
		}
		l := s.Limits[u.Limit]
		missing[l.B] -= u.Times
		missing[l.A] += u.Times
		sum += u.Times * l.Most
	}
	return sum == p.Bound && allInside(missing[1:], 0)
}

// Rests returns the sources on which a proof rests.
func Rests(s api.System, p api.Proof) ([]int, api.Errno) {
	if e := Check(s); e != api.OK {
		return nil, e
	}
	var sources []int
	for _, u := range p.Uses {
		if !inside(u.Limit, 0, len(s.Limits)-1) {
			return nil, api.ErrProof
		}
		sources = append(sources, s.Limits[u.Limit].By)
	}
	return rising(sources), api.OK
}

// Carry returns what a proof is in the system without some sources.
func Carry(s api.System, w []int, p api.Proof, by []int) (api.Proof, api.Errno) {
	if e := CheckProof(s, w, p); e != api.OK {
		return api.Proof{}, e
	}
	stays := notOf(by)
	places := make([]int, len(s.Limits)) // the indices of the limits that stay
	many := 0
	for i, l := range s.Limits {
		places[i] = many
		if stays(l.By) {
			many++
		}
	}
	carried := api.Proof{Bound: p.Bound}
	for _, u := range p.Uses {
		if !stays(s.Limits[u.Limit].By) {
			return api.Proof{}, api.ErrNone
		}
		carried.Uses = append(carried.Uses, api.Use{Limit: places[u.Limit], Times: u.Times})
	}
	return carried, api.OK
}
