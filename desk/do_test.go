package desk_test

import (
	"fmt"
	"math/rand"
	"slices"
	"strings"
	"testing"

	"moorsom/api"
	"moorsom/desk"
	"moorsom/life"
	"moorsom/mark"
	"moorsom/offsets"
)

// A clerk thinks out commands, most of which may be done.
type clerk struct{ *rand.Rand }

// one of some texts.
func (r clerk) one(words ...string) string { return words[r.Intn(len(words))] }

func (r clerk) office() string {
	if r.Intn(40) == 0 {
		return r.one("9", "-1")
	}
	return r.one("7", "7", "7", "7", "7", "2", "2", "0", "5")
}

// ship is one of two, whose homes are the offices 7 and 2.
func (r clerk) ship() string {
	if r.Intn(40) == 0 {
		return r.one("0", "1000", "-7")
	}
	return r.one("7", "7", "7", "11")
}

func (r clerk) day() string {
	if r.Intn(40) == 0 {
		return r.one("-1", "100001")
	}
	return fmt.Sprint(r.Intn(60))
}

// late is a day behind all others.
func (r clerk) late() string { return r.one("60", "70", "70", "100000", r.day()) }

func (r clerk) room() string { return r.one("5", "5", "5", "5", "6", "100", "100", "100", "101", "0") }

func (r clerk) places() string {
	return r.one("0 1000", "0 1000", "0 1000", " 0  500 1000 ", "0 100 400", "", "0", "0 1000\\n", "5 x", "0 07", "0 -5", "1000 0", strings.Repeat("1 ", 20), strings.Repeat("1 ", 21))
}

// rules are the text of a code.
func (r clerk) rules() string {
	return r.one(
		`code red\nversion 0\nput 1\ngross 1 0 0 1000\nnet 1 0 0 500\n`,
		`code red\nversion 0\nput 1\ngross 1 0 0 1000\nnet 1 0 0 500\n`,
		`code blue\nversion 0\nput 0 opening > 400\nput 2 kind = 1\nput 1\ngross 1 0 0 300\ngross 1 100 5000 500\nnet 1 0 0 200\ngross 2 0 0 100\nversion 30\nput 1\ngross 1 0 -9000 50\n`,
		`code late\nversion 25\nput 1\ngross 1 0 1000000 0\nnet 1 0 -2000 90\n`,
		`nothing`, ``, `code X\nversion 0\n`)
}

// setUp is a command that sets something up.
func (r clerk) setUp() string {
	switch r.Intn(30) {
	default:
		return fmt.Sprintf(`code %s "%s"`, r.one("1", "2", "2", "3", "4", "9", "0", "10"), r.rules())
	case 1, 2, 3:
		return fmt.Sprint("passage ", r.Intn(16), " ", r.ship(), " ", r.day(), " ", r.day(), " ", r.one("0", "300", "10000", "10001"))
	case 4:
		return r.one("lines 1000 1200", "lines 1000 1200", "lines 0 1", "lines 100000 15000")
	case 5, 6:
		return r.one("freeboard 500 100", "freeboard 1500 200", "freeboard 1000 150", "freeboard 2000 0")
	case 7:
		return r.one("season 1 20 30 300", "season 2 300 60 60", "season 1 0 1 1")
	case 8, 9:
		return fmt.Sprintf("leg %s %s %s 1000 1025 %s", r.one("1", "1", "2", "21"), r.one("22", "30", "35"), r.one("36", "40", "30"), r.one("5 10", "0 0", "10 5"))
	case 10, 11:
		return fmt.Sprintf("try %d %d %s", r.Intn(3), r.Intn(3), r.one("0", "0", "5", "50", "1001"))
	case 12:
		return "clear"
	case 13, 14, 15, 16, 17, 18:
		return r.one("try 0 0 0", "try 1 1 0", "try 0 1 1")
	}
}

// record is a command that makes one.
func (r clerk) record() string {
	head := fmt.Sprint(r.office(), " ", r.ship(), " ", r.day(), " ", r.day(), " ")
	switch r.Intn(16) {
	case 0, 1:
		return fmt.Sprintf(`build %s%s %s %s "%s" "%s"`, head, r.one("1", "2", "2", "10"), r.one("100", "100", "101", "5"), r.one("100 200", "100 200", "0 0", "100001 0"), r.places(), r.places())
	case 2, 3, 4:
		return fmt.Sprintf(`room %s%s %s %s "%s" "%s"`, head, r.one("1 0 0", "3 0 4", "9 1000 999", "10 0 0"), r.one("5", "5", "6", "100"), r.one("100 200", "100 200", "0 0"), r.places(), r.places())
	case 5:
		return "gone " + head + r.room()
	case 6:
		return r.one("kind ", "opening ", "crew ") + head + r.room() + " " + r.one("0", "1", "3", "500", "2000")
	case 7:
		return "flag " + head + r.one("1", "2", "3", "0")
	case 8, 9, 10, 11:
		return "read " + head + r.room() + fmt.Sprintf(" %s %s %d %s %s", r.one("0", "0", "1", "8", "9"), r.one("0", "1", "6", "7"), 50*r.Intn(8), r.one("0", "10", "200"), r.one("1", "2", "100"))
	case 12:
		return "tape " + head + r.one("1 0 100 5 15", "1 20 40 0 0", "2 0 100 -10 10", "1 30 20 0 0", "2 0 9 -1001 0")
	case 13, 14:
		return fmt.Sprint("withdraw ", r.office(), " ", r.day(), " ", r.Intn(12)-1)
	}
	return fmt.Sprint("grant ", r.one("7", "7", "2", "0"), " ", r.ship(), " ", r.office(), " ", r.day(), " ", r.one("60", r.day()))
}

// exchange is a command about links and disks.
func (r clerk) exchange() string {
	n := r.one("0", "1", "2", "7", "-1", "-9", "1000000000000", "-1000000000000")
	switch r.Intn(12) {
	case 0, 1, 2:
		return "offer " + r.office() + " " + r.office()
	case 3:
		return "lose " + n
	case 4:
		return "double " + n
	case 5:
		return "restart " + r.office() + " " + n + " " + r.one("0", "3", "-2")
	case 6:
		return "pack " + r.office()
	}
	return "deliver " + n
}

// query is a command that asks.
func (r clerk) query() string {
	ship := r.office() + " " + r.ship() + " "
	both := ship + r.one("30", "50", r.day()) + " " + r.late()
	switch r.Intn(24) {
	case 0:
		return "state " + both
	case 1:
		return "figures " + both
	case 2:
		return "certs " + ship + r.late()
	case 3:
		return "issue " + ship + r.day()
	case 4:
		return "due " + r.office() + " " + fmt.Sprint(r.Intn(12)) + " " + r.late()
	case 5:
		return "ledger " + ship + r.late()
	case 6:
		return "balance " + ship + r.late()
	case 7:
		return "lineage " + both
	case 8:
		return "moved " + ship + r.late() + " " + r.office() + " " + fmt.Sprint(r.Intn(12))
	case 9:
		return "table " + both
	case 10:
		return "judge " + both + " " + r.one("150 160", "180 200", "0 0", "50000 60000", "2 1", "39000 39500")
	case 11:
		return "sure " + both
	case 12, 13:
		return "sinks " + both + " " + r.one("150 160", "180 200", "0 0", "50000 60000", "2 1")
	case 14:
		return "prove " + both + " " + r.room() + " " + r.one("0", "1", "1", "2")
	case 15:
		return "fewest " + both + " " + r.room() + " " + r.one("0", "50", "300", "20000", "50000", "1000000001", "-1")
	case 16:
		return "clash " + both + " " + r.room()
	case 17:
		return "holder " + ship + r.day()
	case 18:
		return "free " + ship + r.one("0", r.day()) + " " + r.late()
	case 19:
		return "counts"
	case 20:
		return "judge 7 7 30 100 " + r.one("150 160", "180 200", "39000 39500")
	case 21:
		return "sinks 7 7 30 100 " + r.one("150 160", "180 200")
	case 22:
		return "clash 7 7 50 100 " + r.one("5", "100")
	}
	return "fewest 7 7 50 100 " + r.one("5 ", "100 ") + r.one("50", "300", "20000")
}

// next is the next command of a history.
func (r clerk) next() string {
	switch n := r.Intn(100); {
	case n < 12:
		return r.setUp()
	case n < 42:
		return r.record()
	case n < 62:
		return r.exchange()
	}
	return r.query()
}

// history is so many commands.
func (r clerk) history(many int) []string {
	var lines []string
	switch r.Intn(6) {
	default:
		lines = voyage()
	case 1:
		lines = slices.Concat([]string{red, build, room, read, tape, grant}, marks())
	case 0:
		lines = nil
	case 2:
		lines = []string{red, `build 2 11 5 5 2 100 100 200 "0 1000" "0 1000"`, "grant 2 11 2 0 100"}
	}
	for range many {
		lines = append(lines, r.next())
	}
	return lines
}

// sameAsDue holds an answer against the one that is due; of proofs and
// witnesses each that may be told will do.
func sameAsDue(m *mirror, c api.Command, got, due []string) bool {
	if len(got) == 0 || strings.HasPrefix(due[0], "error") || c.Kind != api.CmdProve && c.Kind != api.CmdSinks {
		return same(got, due)
	}
	events := m.files(c.Args[0]).Events
	if c.Kind == api.CmdProve {
		v, _ := life.Survey(events, c.Args[1], c.Args[4], c.Args[2], c.Args[3])
		high := c.Args[5] == 1
		r, _ := offsets.Bound(v, whole(v))
		end := map[bool]int{false: r.Lo, true: r.Hi}[high]
		p, isRight := proofOf(got)
		return isRight && got[0] == due[0] && offsets.CheckProof(v, whole(v), high, end, p) == api.OK
	}
	s, _ := life.State(events, c.Args[1], c.Args[2], c.Args[3])
	w, isRight := witnessOf(got)
	mass := api.Range{Lo: c.Args[4], Hi: c.Args[5]}
	leg := strings.Fields(due[0])[1]
	return isRight && strings.HasPrefix(got[0], "leg "+leg+" ") && mark.CheckSinks(s.Hull, m.lines, api.Route{Legs: m.legs}, mass, w) == api.OK
}

// proofOf reads a proof that is told; it writes it again to see whether all
// is as it must be.
func proofOf(lines []string) (api.Proof, bool) {
	var p api.Proof
	var again []string
	for i, line := range lines {
		var u api.Use
		if i == 0 {
			fmt.Sscanf(line, "bound %d", &p.Bound)
			again = append(again, fmt.Sprint("bound ", p.Bound))
			continue
		}
		fmt.Sscanf(line, "use %d %d", &u.Limit, &u.Times)
		p.Uses = append(p.Uses, u)
		again = append(again, fmt.Sprintf("use %d %d", u.Limit, u.Times))
	}
	return p, same(lines, again)
}

// witnessOf reads a witness that is told.
func witnessOf(lines []string) (api.Witness, bool) {
	var w api.Witness
	var again []string
	for i, line := range lines {
		if i == 0 {
			fmt.Sscanf(line, "leg %d %d %d", &w.Leg, &w.Dense, &w.Mass)
			again = append(again, fmt.Sprintf("leg %d %d %d", w.Leg, w.Dense, w.Mass))
			continue
		}
		var row []int
		for _, word := range strings.Fields(line)[1:] {
			n := 0
			fmt.Sscan(word, &n)
			row = append(row, n)
		}
		w.Hull.Rows = append(w.Hull.Rows, row)
		again = append(again, "row "+strings.Trim(fmt.Sprint(row), "[]"))
	}
	return w, same(lines, again)
}

// sameDesk holds what a desk shows of itself against a mirror.
func sameDesk(d *desk.Desk, m *mirror, office int) string {
	for i, o := range m.offices {
		if !sameOffice(d.Office(i), o) {
			return fmt.Sprint("office ", i)
		}
	}
	f := api.Files{Laws: m.laws, Passages: m.passages}
	f.Events, _ = desk.Events(m.offices[office].Memory.Register)
	if !same(d.Files(office), f) {
		return "files"
	}
	if l, r := d.Lines(); !same(l, m.lines) || !same(r.Legs, m.legs) {
		return "lines"
	}
	return ""
}

// TestHistories is P10.2 for Do, and P10.5: each command of many histories
// tells and changes what the lower layers say; one that is refused changes
// nothing, but that a message is gone.
func TestHistories(t *testing.T) {
	r := clerk{rand.New(rand.NewSource(106))}
	told, refused := map[int]int{}, map[string]int{}
	for range 400 {
		d, m := desk.New(), newMirror()
		for i, line := range r.history(140) {
			c := commandOf(t, line)
			got := d.Do(c)
			due := []string{"error 1"}
			if c.Kind < api.CmdBuild || c.Kind >= api.CmdOffer && c.Kind <= api.CmdDouble || c.Kind == api.CmdCounts || c.Args[0] >= 0 && c.Args[0] <= 8 {
				due = m.do(c)
			}
			if !sameAsDue(m, c, got, due) {
				t.Fatalf("%d %s\ntells %q\ndue   %q", i, line, got, due)
			}
			if what := sameDesk(d, m, r.Intn(9)); what != "" {
				t.Fatal(i, line, got, what)
			}
			if strings.HasPrefix(due[0], "error") {
				refused[due[0]]++
			} else {
				told[c.Kind]++
			}
		}
	}
	for _, f := range forms() {
		if told[f.kind] < 20 {
			t.Error(f.word, "was seldom done:", told[f.kind])
		}
	}
	if len(refused) < 15 {
		t.Error("few errors were told:", refused)
	}
}
