package code

import (
	"iter"
	"slices"

	"moorsom/api"
)

// A line says what a formula makes of a group's litres, in thousandths: value
// is its value at some litres.
type line struct {
	pieces []api.Piece
	value  func(litres int) int
}

// lines makes the lines of a formula, by their groups.
func (v version) lines(formula int) [api.MaxGroups]line {
	var lines [api.MaxGroups]line
	for g, pieces := range v.Lines[formula] {
		lines[g] = line{pieces, func(litres int) int {
			for _, p := range slices.Backward(pieces) {
				if p.From <= litres {
					return p.Base + p.Rate*litres
				}
			}
			return 0
		}}
	}
	return lines
}

// spans yields the pieces of a line that hold some of a group's litres, by
// their indices, each with those litres.
func (l line) spans(litres api.Range) iter.Seq2[int, api.Range] {
	return func(yield func(int, api.Range) bool) {
		if len(l.pieces) == 0 {
			yield(0, litres)
			return
		}
		for i, p := range l.pieces {
			held := api.Range{Lo: max(litres.Lo, p.From), Hi: litres.Hi}
			if i+1 < len(l.pieces) {
				held.Hi = min(held.Hi, l.pieces[i+1].From-1)
			}
			if held.Lo <= held.Hi && !yield(i, held) {
				return
			}
		}
	}
}

// ends returns the first of some litres at which a line's value is least, and
// the first one at which it is greatest.
func (l line) ends(litres api.Range) (least, greatest int) {
	least, greatest = litres.Lo, litres.Lo
	for _, held := range l.spans(litres) {
		// Within a piece the value rises, falls or stays, so that no other
		// litres of it are the first with a least or a greatest value.
		for _, n := range [...]int{held.Lo, held.Hi} {
			if l.value(n) < l.value(least) {
				least = n
			}
			if l.value(n) > l.value(greatest) {
				greatest = n
			}
		}
	}
	return least, greatest
}

// whole is the whole part of thousandths, rounded down.
func whole(thousandths int) int {
	n := thousandths / 1000
	if thousandths%1000 < 0 {
		n--
	}
	return n
}

// tonnage is the tonnage of litres of all groups by the lines of a formula.
func tonnage(lines [api.MaxGroups]line, litres [api.MaxGroups]int) int {
	sum := 0
	for g, l := range lines {
		sum += l.value(litres[g])
	}
	return whole(sum)
}

func isFormula(n int) bool { return inside(n, gross, formulas-1) }

func areLitres(n int) bool { return inside(n, 0, maxShared) }

// Value is what a formula makes of a group's litres, in thousandths.
func Value(c api.Code, version, formula, group, litres int) (int, api.Errno) {
	v, e := versionOf(c, version)
	if e != api.OK {
		return 0, e
	}
	if !isFormula(formula) || !inside(group, 1, api.MaxGroups) || !areLitres(litres) {
		return 0, api.ErrArg
	}
	return v.lines(formula)[group-1].value(litres), api.OK
}

// Tonnage is the tonnage of litres that are known.
func Tonnage(c api.Code, version, formula int, litres [api.MaxGroups]int) (int, api.Errno) {
	v, e := versionOf(c, version)
	if e != api.OK {
		return 0, e
	}
	if !isFormula(formula) || !allOf(litres[:], areLitres) {
		return 0, api.ErrArg
	}
	return tonnage(v.lines(formula), litres), api.OK
}
