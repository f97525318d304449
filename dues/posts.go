package dues

import (
	"cmp"
	"slices"

	"moorsom/api"
)

// passagesOf are the passages of a ship, by their Ids.
func (b *book) passagesOf(ship int) []api.Passage {
	var passages []api.Passage
	for _, p := range b.Passages {
		if p.Ship == ship {
			passages = append(passages, p)
		}
	}
	return passages
}

// due is what a passage costs, as known on a day.
func (b *book) due(p api.Passage, known int) int {
	if p.Known > known {
		return 0
	}
	// Without figures Net is 0, and so is the due.
	net := b.answer(question{p.Ship, p.Day, known}).figures.Net
	return p.Rate * max(net.Lo, 0) / 100
}

// Due is what a passage costs, as known on a day.
func Due(f api.Files, passage, known int) (int, api.Errno) {
	b, p, e := ofPassage(f, passage, known)
	if e != api.OK {
		return 0, e
	}
	return b.due(p, known), api.OK
}

// post sends the postings of passages up to a day, of one passage behind the
// other, and closes the channel.
func (b *book) post(posts chan<- api.Post, passages []api.Passage, known int) {
	for _, p := range passages {
		posted := 0
		for _, date := range b.dates(p.Ship) {
			if date > known {
				break
			}
			due := b.due(p, date)
			if due != posted {
				posts <- api.Post{Known: date, Passage: p.Id, Amount: due - posted}
				posted = due
			}
		}
	}
	close(posts)
}

// posts are the postings of passages up to a day. The book is the goroutine's
// own until the channel is closed.
func (b *book) posts(passages []api.Passage, known int) []api.Post {
	made := make(chan api.Post)
	go b.post(made, passages, known)
	var posts []api.Post
	for p := range made {
		posts = append(posts, p)
	}
	return posts
}

// Posts returns the postings of a passage up to a day.
func Posts(f api.Files, passage, known int) ([]api.Post, api.Errno) {
	b, p, e := ofPassage(f, passage, known)
	if e != api.OK {
		return nil, e
	}
	return b.posts([]api.Passage{p}, known), api.OK
}

// byKnown is the order of a ledger.
func byKnown(a, b api.Post) int {
	return cmp.Or(cmp.Compare(a.Known, b.Known), cmp.Compare(a.Passage, b.Passage))
}

// Ledger returns the postings of a ship up to a day.
func Ledger(f api.Files, ship, known int) ([]api.Post, api.Errno) {
	b, e := ofShip(f, ship, known)
	if e != api.OK {
		return nil, e
	}
	posts := b.posts(b.passagesOf(ship), known)
	slices.SortFunc(posts, byKnown)
	return posts, api.OK
}

// CheckLedger reports whether postings are those of a ship up to a day.
func CheckLedger(f api.Files, ship, known int, l []api.Post) api.Errno {
	ledger, e := Ledger(f, ship, known)
	if e != api.OK {
		return e
	}
	if !slices.Equal(l, ledger) {
		return api.ErrPost
	}
	return api.OK
}

// sum adds up what there is of each item of a list.
func sum[T any](list []T, of func(T) int) int {
	total := 0
	for _, item := range list {
		total += of(item)
	}
	return total
}

func amount(p api.Post) int { return p.Amount }

// refund is what a posting pays back.
func refund(p api.Post) int { return max(-p.Amount, 0) }

// Balance is the sum of a ship's postings up to a day.
func Balance(f api.Files, ship, known int) (int, api.Errno) {
	ledger, e := Ledger(f, ship, known)
	return sum(ledger, amount), e
}

// Refunds is the sum of what was paid back to a ship up to a day.
func Refunds(f api.Files, ship, known int) (int, api.Errno) {
	ledger, e := Ledger(f, ship, known)
	return sum(ledger, refund), e
}
