package code

import (
	"slices"

	"moorsom/api"
)

// A scene is what is judged: the lines of a formula, and what litres the
// groups may have.
type scene struct {
	lines  [api.MaxGroups]line
	litres [api.MaxGroups]api.Range
}

// scene is that of valid rooms by a formula of a version.
func (v version) scene(formula int, l []api.Room) scene {
	s := scene{lines: v.lines(formula)}
	shares, _ := v.shares(l)
	for g, share := range shares {
		s.litres[g] = share.Litres
	}
	return s
}

// ends shows the least and the greatest tonnage of a scene.
func (s scene) ends() (low, high api.End) {
	for g, l := range s.lines {
		low.Litres[g], high.Litres[g] = l.ends(s.litres[g])
	}
	low.Tonnage = tonnage(s.lines, low.Litres)
	high.Tonnage = tonnage(s.lines, high.Litres)
	return low, high
}

// judge is the range of the tonnages of a scene.
func (s scene) judge() api.Range {
	low, high := s.ends()
	return api.Range{Lo: low.Tonnage, Hi: high.Tonnage}
}

// versionOn examines what is asked of rooms on a day; it returns the version
// that is in force.
func versionOn(c api.Code, day, formula int, l []api.Room) (version, api.Errno) {
	if e := checkDay(c, day); e != api.OK {
		return version{}, e
	}
	if !isFormula(formula) {
		return version{}, api.ErrArg
	}
	index, e := inForce(c, day)
	if e != api.OK {
		return version{}, e
	}
	if e := CheckRooms(l); e != api.OK {
		return version{}, e
	}
	return version{c.Versions[index]}, api.OK
}

// sceneOn is the scene of rooms on a day.
func sceneOn(c api.Code, day, formula int, l []api.Room) (scene, api.Errno) {
	v, e := versionOn(c, day, formula, l)
	if e != api.OK {
		return scene{}, e
	}
	return v.scene(formula, l), api.OK
}

// Judge is the range of the tonnages of rooms on a day.
func Judge(c api.Code, day, formula int, l []api.Room) (api.Range, api.Errno) {
	s, e := sceneOn(c, day, formula, l)
	if e != api.OK {
		return api.Range{}, e
	}
	return s.judge(), api.OK
}

// Ends shows the least and the greatest tonnage.
func Ends(c api.Code, day, formula int, l []api.Room) (low, high api.End, e api.Errno) {
	s, e := sceneOn(c, day, formula, l)
	if e != api.OK {
		return api.End{}, api.End{}, e
	}
	low, high = s.ends()
	return low, high, api.OK
}

// attains reports whether an end has litres of all groups, and their tonnage.
func (s scene) attains(end api.End) bool {
	for g, litres := range s.litres {
		if !inside(end.Litres[g], litres.Lo, litres.Hi) {
			return false
		}
	}
	return end.Tonnage == tonnage(s.lines, end.Litres)
}

// CheckEnds reports whether ends are those of rooms on a day.
func CheckEnds(c api.Code, day, formula int, l []api.Room, ends [2]api.End) api.Errno {
	s, e := sceneOn(c, day, formula, l)
	if e != api.OK {
		return e
	}
	low, high := ends[0], ends[1]
	if !s.attains(low) || !s.attains(high) || s.judge() != (api.Range{Lo: low.Tonnage, Hi: high.Tonnage}) {
		return api.ErrEnds
	}
	return api.OK
}

// restsOn reports whether the range of the tonnages of valid rooms is another
// one if the litres of the room with an index are its Lo or its Hi alone.
func (v version) restsOn(formula int, l []api.Room, index int) bool {
	all := v.scene(formula, l).judge()
	narrowed := slices.Clone(l)
	litres := l[index].Litres
	for _, n := range [...]int{litres.Lo, litres.Hi} {
		narrowed[index].Litres = api.Range{Lo: n, Hi: n}
		if v.scene(formula, narrowed).judge() != all {
			return true
		}
	}
	return false
}

// Rests returns the rooms on which a tonnage rests.
func Rests(c api.Code, day, formula int, l []api.Room) ([]int, api.Errno) {
	v, e := versionOn(c, day, formula, l)
	if e != api.OK {
		return nil, e
	}
	var rests []int
	for i, r := range l {
		if v.restsOn(formula, l, i) {
			rests = append(rests, r.Id)
		}
	}
	return rests, api.OK
}

// Days returns the days on which the tonnages of rooms change.
func Days(c api.Code, formula int, l []api.Room) ([]int, api.Errno) {
	if e := Check(c); e != api.OK {
		return nil, e
	}
	if !isFormula(formula) {
		return nil, api.ErrArg
	}
	if e := CheckRooms(l); e != api.OK {
		return nil, e
	}
	var days []int
	for i, v := range c.Versions[1:] {
		// On the day ahead of its From the version ahead of it is in force.
		before := version{c.Versions[i]}.scene(formula, l).judge()
		if (version{v}).scene(formula, l).judge() != before {
			days = append(days, v.From)
		}
	}
	return days, api.OK
}
