package code

import (
	"slices"

	"moorsom/api"
)

// A version is a valid one of a code.
type version struct{ api.Version }

// versionOf returns the version of a code with an index.
func versionOf(c api.Code, index int) (version, api.Errno) {
	if e := Check(c); e != api.OK {
		return version{}, e
	}
	if !inside(index, 0, len(c.Versions)-1) {
		return version{}, api.ErrVersion
	}
	return version{c.Versions[index]}, api.OK
}

// checkDay examines a code, and what functions are asked of a day.
func checkDay(c api.Code, day int) api.Errno {
	if e := Check(c); e != api.OK {
		return e
	}
	if !inside(day, 0, api.MaxDay) {
		return api.ErrDay
	}
	return api.OK
}

// inForce is the index of the version of a valid code that is in force on a day.
func inForce(c api.Code, day int) (int, api.Errno) {
	for i, v := range slices.Backward(c.Versions) {
		if v.From <= day {
			return i, api.OK
		}
	}
	return 0, api.ErrForce
}

// InForce is the index of the version that is in force on a day.
func InForce(c api.Code, day int) (int, api.Errno) {
	if e := checkDay(c, day); e != api.OK {
		return 0, e
	}
	return inForce(c, day)
}

// cloneVersion copies a version with all that it holds.
func cloneVersion(v api.Version) api.Version {
	v.Puts = slices.Clone(v.Puts)
	for i := range v.Puts {
		v.Puts[i].Tests = slices.Clone(v.Puts[i].Tests)
	}
	for formula := range v.Lines {
		for g, pieces := range v.Lines[formula] {
			v.Lines[formula][g] = slices.Clone(pieces)
		}
	}
	return v
}

// Amend is a code with one more version.
func Amend(c api.Code, v api.Version) (api.Code, api.Errno) {
	if e := Check(c); e != api.OK {
		return api.Code{}, e
	}
	if !isVersion(v) || v.From <= c.Versions[len(c.Versions)-1].From {
		return api.Code{}, api.ErrVersion
	}
	if len(c.Versions) == api.MaxVersions {
		return api.Code{}, api.ErrLong
	}
	amended := api.Code{Name: c.Name}
	for _, old := range c.Versions {
		amended.Versions = append(amended.Versions, cloneVersion(old))
	}
	amended.Versions = append(amended.Versions, cloneVersion(v))
	return amended, api.OK
}

// A measure is what a test compares with its number.
type measure int

func (m measure) less(n int) bool    { return int(m) < n }
func (m measure) atMost(n int) bool  { return int(m) <= n }
func (m measure) equal(n int) bool   { return int(m) == n }
func (m measure) unequal(n int) bool { return int(m) != n }
func (m measure) atLeast(n int) bool { return int(m) >= n }
func (m measure) more(n int) bool    { return int(m) > n }

// isSo reports whether a valid test is so for a room.
func isSo(t api.Test, r api.Room) bool {
	measures := [...]measure{
		api.OfKind:    measure(r.Kind),
		api.OfOpening: measure(r.Opening),
		api.OfCrew:    measure(r.Crew),
	}
	compare := [...]func(measure, int) bool{
		api.Less:    measure.less,
		api.AtMost:  measure.atMost,
		api.Equal:   measure.equal,
		api.Unequal: measure.unequal,
		api.AtLeast: measure.atLeast,
		api.More:    measure.more,
	}
	return compare[t.How](measures[t.Of], t.Num)
}

// firstPut is the index of the first put all of whose tests are so for a
// room; -1 if there is none.
func (v version) firstPut(r api.Room) int {
	first := -1
search:
	for i, p := range v.Puts {
		for _, t := range p.Tests {
			if !isSo(t, r) {
				continue search
			}
		}
		first = i
		break search
	}
	return first
}

// groupOf is the group into which a version puts a room, and the index of the
// put; 0 and -1 if there is none.
func (v version) groupOf(r api.Room) (group, put int) {
	put = v.firstPut(r)
	if put < 0 {
		return 0, put
	}
	return v.Puts[put].Group, put
}

// Group is the group into which a version puts a room, and the index of the put.
func Group(c api.Code, version int, r api.Room) (group, put int, e api.Errno) {
	v, e := versionOf(c, version)
	if e != api.OK {
		return 0, 0, e
	}
	if e := CheckRoom(r); e != api.OK {
		return 0, 0, e
	}
	group, put = v.groupOf(r)
	return group, put, api.OK
}

// shares puts valid rooms into the groups of a version; it returns the
// groups' shares, and the rooms that are exempt.
func (v version) shares(l []api.Room) (shares [api.MaxGroups]api.Share, exempt []int) {
	for i := range shares {
		shares[i].Group = i + 1
	}
	for _, r := range l {
		group, _ := v.groupOf(r)
		if group == 0 {
			exempt = append(exempt, r.Id)
			continue
		}
		s := &shares[group-1]
		s.Rooms = append(s.Rooms, r.Id)
		s.Litres.Lo += r.Litres.Lo
		s.Litres.Hi += r.Litres.Hi
	}
	return shares, exempt
}

// Compile is the plan for rooms on a day.
func Compile(c api.Code, day int, l []api.Room) (api.Plan, api.Errno) {
	if e := checkDay(c, day); e != api.OK {
		return api.Plan{}, e
	}
	index, e := inForce(c, day)
	if e != api.OK {
		return api.Plan{}, e
	}
	if e := CheckRooms(l); e != api.OK {
		return api.Plan{}, e
	}
	shares, exempt := version{c.Versions[index]}.shares(l)
	return api.Plan{Version: index, Shares: shares, Exempt: exempt}, api.OK
}

// Moved returns the rooms that another version puts into another group.
func Moved(c api.Code, from, to int, l []api.Room) ([]int, api.Errno) {
	old, e := versionOf(c, from)
	if e != api.OK {
		return nil, e
	}
	next, e := versionOf(c, to)
	if e != api.OK {
		return nil, e
	}
	if e := CheckRooms(l); e != api.OK {
		return nil, e
	}
	var moved []int
	for _, r := range l {
		before, _ := old.groupOf(r)
		behind, _ := next.groupOf(r)
		if before != behind {
			moved = append(moved, r.Id)
		}
	}
	return moved, api.OK
}
