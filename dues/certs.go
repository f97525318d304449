package dues

import (
	"slices"

	"moorsom/api"
	"moorsom/life"
)

// rising is numbers in order, each once.
func rising(l []int) []int {
	slices.Sort(l)
	return slices.Compact(l)
}

// days are those on which the flag or the figures of a ship may change.
func (b *book) days(ship, known int) []int {
	days, _ := life.Days(b.Events, ship, known) // no error: the book's files are valid
	for _, l := range b.Laws {
		for _, v := range l.Code.Versions {
			days = append(days, v.From)
		}
	}
	return rising(days)
}

// Days returns the days on which a ship's flag or figures may change, as known on a day.
func Days(f api.Files, ship, known int) ([]int, api.Errno) {
	b, e := ofShip(f, ship, known)
	if e != api.OK {
		return nil, e
	}
	return b.days(ship, known), api.OK
}

// goesOn reports whether a certificate tells the same as another one, from the
// day on behind its last one.
func goesOn(c, behind api.Cert) bool {
	return c.To+1 == behind.From && c.Flag == behind.Flag && c.Figures == behind.Figures
}

// certify makes the certificates of a ship. Her flag and figures stay the same
// from each of some days to the next one, and ahead of the first one she has
// none; ask tells those of a day.
func certify(ship int, days []int, ask func(day int) answer) []api.Cert {
	var certs []api.Cert
	for i, day := range days {
		a := ask(day)
		if a.e != api.OK {
			continue
		}
		c := api.Cert{Ship: ship, Flag: a.flag, From: day, To: api.MaxDay, Figures: a.figures}
		if i+1 < len(days) {
			c.To = days[i+1] - 1
		}
		if n := len(certs); n > 0 && goesOn(certs[n-1], c) {
			certs[n-1].To = c.To
		} else {
			certs = append(certs, c)
		}
	}
	return certs
}

// certs are the certificates of a ship, as known on a day.
func (b *book) certs(ship, known int) []api.Cert {
	return certify(ship, b.days(ship, known), func(day int) answer {
		return b.answer(question{ship, day, known})
	})
}

// Certs returns the certificates of a ship, as known on a day.
func Certs(f api.Files, ship, known int) ([]api.Cert, api.Errno) {
	b, e := ofShip(f, ship, known)
	if e != api.OK {
		return nil, e
	}
	return b.certs(ship, known), api.OK
}

// CheckCert reports whether a certificate is true, as known on a day.
func CheckCert(f api.Files, known int, c api.Cert) api.Errno {
	b, e := ofShip(f, c.Ship, known)
	if e != api.OK {
		return e
	}
	if !slices.Contains(b.certs(c.Ship, known), c) {
		return api.ErrCert
	}
	return api.OK
}

// dates are the days on which something became known on which the certificates
// or the dues of a ship may rest.
func (b *book) dates(ship int) []int {
	dates, _ := life.Dates(b.Events, ship) // no error: the book's files are valid
	for _, p := range b.passagesOf(ship) {
		dates = append(dates, p.Known)
	}
	return rising(dates)
}

// Dates returns the days on which something became known that a ship's certificates or dues may rest on.
func Dates(f api.Files, ship int) ([]int, api.Errno) {
	b, e := ofShip(f, ship)
	if e != api.OK {
		return nil, e
	}
	return b.dates(ship), api.OK
}

// notIn returns the certificates of a list that are not in another one.
func notIn(certs, others []api.Cert) []api.Cert {
	var only []api.Cert
	for _, c := range certs {
		if !slices.Contains(others, c) {
			only = append(only, c)
		}
	}
	return only
}

// Issued returns the certificates that are new on a day, and those that are taken back.
func Issued(f api.Files, ship, known int) (more, gone []api.Cert, e api.Errno) {
	b, e := ofShip(f, ship, known)
	if e != api.OK {
		return nil, nil, e
	}
	now := b.certs(ship, known)
	var before []api.Cert
	if known > 0 {
		before = b.certs(ship, known-1)
	}
	return notIn(now, before), notIn(before, now), api.OK
}
