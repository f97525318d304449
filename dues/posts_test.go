package dues_test

import (
	"cmp"
	"runtime"
	"slices"
	"testing"
	"time"

	"moorsom/api"
	"moorsom/dues"
)

func TestPostExamples(t *testing.T) {
	f := example()
	if l, e := dues.Ledger(f, 7, 60); e != api.OK || len(l) != 0 {
		t.Error(l, e)
	}
	if n, e := dues.Due(f, 1, 22); n != 0 || e != api.OK {
		t.Error(n, e)
	}
	f = document()
	for known, want := range map[int]int{19: 0, 20: 0, 30: 0, 39: 0, 40: 54, 49: 54, 50: 0, 100000: 0} {
		if n, e := dues.Due(f, 1, known); n != want || e != api.OK {
			t.Error(known, n, e)
		}
	}
	posts := []api.Post{{Known: 40, Passage: 1, Amount: 54}, {Known: 50, Passage: 1, Amount: -54}}
	for known, many := range map[int]int{39: 0, 40: 1, 49: 1, 50: 2, 100000: 2} {
		l, e1 := dues.Posts(f, 1, known)
		ledger, e2 := dues.Ledger(f, 7, known)
		mustHold(t, max(e1, e2))
		if !slices.Equal(l, posts[:many]) || !slices.Equal(ledger, posts[:many]) {
			t.Error(known, l, ledger)
		}
		balance, e1 := dues.Balance(f, 7, known)
		refunds, e2 := dues.Refunds(f, 7, known)
		if max(e1, e2) != api.OK || balance != []int{0, 54, 0}[many] || refunds != []int{0, 0, 54}[many] {
			t.Error(known, balance, refunds)
		}
	}
}

// fixed are files with passages of the ship 7 whose net tonnage is known: it
// is n from the day 10 on, and it is known on the day 10.
func fixed(n string, passages ...api.Passage) api.Files {
	return api.Files{
		Events:   list(0, build(10, 2)),
		Laws:     []api.Law{law(2, "version 0", "net 1 0 "+n+" 0")},
		Passages: passages,
	}
}

// TestRounding: a due is rounded down, and one of less than nothing is nothing.
func TestRounding(t *testing.T) {
	for _, c := range []struct {
		net        string
		rate, want int
	}{
		{"54000", 3, 1}, {"54999", 3, 1}, {"66000", 3, 1}, {"67000", 3, 2}, {"33000", 3, 0}, {"34000", 3, 1}, {"99999", 100, 99}, {"1000", 99, 0},
		{"54000", 0, 0}, {"0", 100, 0}, {"999", 10000, 0}, {"1000", 10000, 100}, {"-1", 10000, 0}, {"-50000", 10000, 0}, {"-1000000000000", 10000, 0},
		{"1000000000000", 10000, 100000000000},
	} {
		f := fixed(c.net, api.Passage{Id: 1, Ship: 7, Day: 20, Known: 15, Rate: c.rate})
		if n, e := dues.Due(f, 1, 15); n != c.want || e != api.OK {
			t.Error(c, n, e)
		}
		want := []api.Post{{Known: 15, Passage: 1, Amount: c.want}}
		if c.want == 0 {
			want = nil
		}
		if l, e := dues.Posts(f, 1, 100000); e != api.OK || !slices.Equal(l, want) {
			t.Error(c, l, e)
		}
	}
}

// TestLeast: the due is that of the least net tonnage, not of the greatest
// one, nor of gross.
func TestLeast(t *testing.T) {
	f := document()
	f.Laws[0] = law(2, "version 0", "put 1", "gross 1 0 0 100000", "net 1 0 600000 -1000")
	f.Passages[0].Rate = 100
	for known, want := range map[int]int{30: 0, 40: 90} { // 600 less 2520, 600 less 510
		if n, e := dues.Due(f, 1, known); n != want || e != api.OK {
			t.Error(known, n, e)
		}
	}
}

// TestWhenPosted: a passage is posted when it and the ship are known; the day
// of the passage says which figures count.
func TestWhenPosted(t *testing.T) {
	for _, c := range []struct{ day, known, posted int }{{20, 0, 10}, {20, 10, 10}, {20, 11, 11}, {10, 30, 30}, {100000, 100000, 100000}, {9, 30, 0}} {
		f := fixed("7000", api.Passage{Id: 5, Ship: 7, Day: c.day, Known: c.known, Rate: 100})
		want := []api.Post{{Known: c.posted, Passage: 5, Amount: 7}}
		if c.day < 10 {
			want = nil
		}
		if l, e := dues.Posts(f, 5, 100000); e != api.OK || !slices.Equal(l, want) {
			t.Error(c, l, e)
		}
		if l, e := dues.Posts(f, 5, c.posted-1); c.posted > 0 && (e != api.OK || len(l) != 0) {
			t.Error(c, l, e)
		}
	}
	f := fixed("7000", api.Passage{Id: 5, Ship: 7, Rate: 100})
	f.Events = list(0, build(0, 2))
	if l, e := dues.Posts(f, 5, 0); e != api.OK || !slices.Equal(l, []api.Post{{Passage: 5, Amount: 7}}) {
		t.Error(l, e)
	}
}

// TestLedgerOrder: postings stand by their days, and those of one day by their
// passages, whichever becomes known first.
func TestLedgerOrder(t *testing.T) {
	f := fixed("7000",
		api.Passage{Id: 1, Ship: 7, Day: 20, Known: 25, Rate: 100}, api.Passage{Id: 3, Ship: 7, Day: 40, Known: 12, Rate: 200},
		api.Passage{Id: 4, Ship: 8, Day: 40, Known: 12, Rate: 900}, api.Passage{Id: 5, Ship: 7, Day: 15, Known: 12, Rate: 300})
	f.Events = append(f.Events, put(told(30, flag(18, 4)), place(1, 0)), put(withdraw(35, 1, 0), place(1, 1)))
	want := []api.Post{{Known: 12, Passage: 3, Amount: 14}, {Known: 12, Passage: 5, Amount: 21}, {Known: 25, Passage: 1, Amount: 7},
		{Known: 30, Passage: 1, Amount: -7}, {Known: 30, Passage: 3, Amount: -14}, {Known: 35, Passage: 1, Amount: 7}, {Known: 35, Passage: 3, Amount: 14}}
	if l, e := dues.Ledger(f, 7, 40); e != api.OK || !slices.Equal(l, want) {
		t.Error(l, e)
	}
	if e := dues.CheckLedger(f, 7, 40, want); e != api.OK {
		t.Error(e)
	}
	turned := slices.Clone(want)
	turned[0], turned[1] = turned[1], turned[0]
	for i, l := range [][]api.Post{nil, want[:6], want[1:], turned, append(slices.Clone(want), want[6]), append(slices.Clone(want), api.Post{Known: 40, Passage: 1})} {
		if e := dues.CheckLedger(f, 7, 40, l); e != api.ErrPost {
			t.Error(i, e)
		}
	}
	balance, e1 := dues.Balance(f, 7, 33)
	refunds, e2 := dues.Refunds(f, 7, 40)
	if max(e1, e2) != api.OK || balance != 21 || refunds != 21 {
		t.Error(balance, refunds, e1, e2)
	}
	for _, l := range [][]api.Post{nil, {}} {
		if e := dues.CheckLedger(f, 9, 40, l); e != api.OK {
			t.Error(e)
		}
	}
}

// thoughtLedger are the postings of all passages of a ship.
func thoughtLedger(f api.Files, ship, known int) []api.Post {
	var ledger []api.Post
	for _, p := range f.Passages {
		if p.Ship == ship {
			ledger = append(ledger, thoughtPosts(f, p, known)...)
		}
	}
	slices.SortFunc(ledger, func(a, b api.Post) int { return cmp.Compare(1000*a.Known+a.Passage, 1000*b.Known+b.Passage) })
	return ledger
}

// TestThoughtPosts is P8.4: dues and postings are those that are found day by
// day, each on one of Dates, and they add up.
func TestThoughtPosts(t *testing.T) {
	posted, paid := 0, 0
	lists(t, 85, 800, func(m maker, f api.Files) {
		known, sums := m.top-m.Intn(3), map[int]int{}
		for _, p := range f.Passages {
			posts, e1 := dues.Posts(f, p.Id, known)
			due, e2 := dues.Due(f, p.Id, known)
			dates, e3 := dues.Dates(f, p.Ship)
			mustHold(t, max(e1, e2, e3), f, p)
			if !slices.Equal(posts, thoughtPosts(f, p, known)) || due != thoughtDue(f, p, known) {
				t.Fatal(f, p, known, posts, due)
			}
			total, last := 0, -1
			for _, x := range posts {
				if x.Amount == 0 || x.Known <= last || x.Known > known || !slices.Contains(dates, x.Known) {
					t.Fatal(f, p, known, posts, dates)
				}
				total, last = total+x.Amount, x.Known
			}
			if total != due {
				t.Fatal(f, p, known, posts, due)
			}
			sums[p.Ship] += due
		}
		for _, ship := range []int{7, 8} {
			posts, refunds := m.mustAddUp(t, f, ship, known, sums[ship])
			posted, paid = posted+posts, paid+refunds
		}
	})
	if posted < 300 || paid < 30 {
		t.Error("too few postings", posted, paid)
	}
}

// mustAddUp holds the ledger of a ship against what is found day by day. It
// returns how many postings there are, and how many of them are refunds.
func (m maker) mustAddUp(t *testing.T, f api.Files, ship, known, sum int) (posts, paid int) {
	t.Helper()
	ledger, e := dues.Ledger(f, ship, known)
	want := thoughtLedger(f, ship, known)
	if e != api.OK || !slices.Equal(ledger, want) {
		t.Fatal(f, ship, known, ledger, e, want)
	}
	back := 0
	for _, x := range want {
		if x.Amount < 0 {
			back -= x.Amount
			paid++
		}
	}
	balance, e1 := dues.Balance(f, ship, known)
	refunds, e2 := dues.Refunds(f, ship, known)
	if max(e1, e2) != api.OK || balance != sum || refunds != back {
		t.Fatal(f, ship, known, balance, refunds)
	}
	mustHold(t, dues.CheckLedger(f, ship, known, want), f, ship, known)
	if len(want) > 0 {
		i := m.Intn(len(want))
		for _, change := range []api.Post{{Known: 1}, {Passage: 1}, {Amount: 1}, {Amount: -1}} {
			wrong := slices.Clone(want)
			wrong[i].Known += change.Known
			wrong[i].Passage += change.Passage
			wrong[i].Amount += change.Amount
			if e := dues.CheckLedger(f, ship, known, wrong); e != api.ErrPost {
				t.Fatal(f, ship, known, wrong, e)
			}
		}
	}
	return len(want), paid
}

// TestNothingGoesOn: what postings are made by ends with the call.
func TestNothingGoesOn(t *testing.T) {
	before := runtime.NumGoroutine()
	for range 200 {
		dues.Posts(document(), 1, 100)
		dues.Ledger(document(), 7, 100)
		dues.CheckLedger(document(), 7, 100, nil)
		dues.Balance(document(), 7, 100)
	}
	for range 100 {
		if runtime.NumGoroutine() <= before {
			return
		}
		time.Sleep(10 * time.Millisecond)
	}
	t.Error(before, runtime.NumGoroutine())
}
