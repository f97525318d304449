package desk_test

import (
	"fmt"
	"math/rand"
	"slices"
	"strings"
	"testing"

	"moorsom/api"
	"moorsom/bound"
	"moorsom/desk"
	"moorsom/offsets"
)

// A day of a ship.
type shipDay struct{ ship, day int }

// traffic is a command about leases and links.
func (r clerk) traffic() string {
	office, ship := r.one("7", "2", "5"), r.one("7", "11")
	home := map[string]string{"7": "7", "11": "2"}[ship]
	n := fmt.Sprint(r.Intn(30))
	switch r.Intn(13) {
	case 0, 1:
		from := r.Intn(30)
		return fmt.Sprintf("grant %s %s %s %d %d", r.one(home, home, home, office), ship, office, from, from+r.Intn(6))
	case 2, 3:
		return "offer " + office + " " + r.one("7", "2", "5")
	case 4:
		return "lose " + n
	case 5:
		return "double " + n
	case 6:
		return "restart " + office + " " + n + " " + n
	case 7:
		return "pack " + office
	case 8:
		return r.record()
	}
	return "deliver " + n
}

// TestIssuers is P10.3: on each day at most one office issues for a ship,
// whatever was lost, doubled and delayed.
func TestIssuers(t *testing.T) {
	r := clerk{rand.New(rand.NewSource(112))}
	issued, foreign := 0, 0
	for range 40 {
		d := deskOf(t, red, build, `build 2 11 5 5 2 100 100 200 "0 1000" "0 1000"`, "grant 7 7 5 3 6", "grant 2 11 5 4 8")
		issuers := map[shipDay]int{}
		for range 120 {
			if c, _, e := desk.Parse(r.traffic()); e == api.OK {
				d.Do(c)
			}
			for range 8 {
				x := shipDay{[]int{7, 11}[r.Intn(2)], r.Intn(36)}
				office := []int{7, 2, 5}[r.Intn(3)]
				answer := ask(t, d, fmt.Sprintf("issue %d %d %d", office, x.ship, x.day))
				if strings.HasPrefix(answer[0], "error") {
					continue
				}
				issued++
				if office != x.ship%9 {
					foreign++
				}
				if other, found := issuers[x]; found && other != office {
					t.Fatal(x, office, other)
				}
				issuers[x] = office
			}
		}
	}
	if issued < 1000 || foreign < 100 {
		t.Error("few certificates were issued:", issued, foreign)
	}
}

// exchange lets offices send each other all that they have.
func exchange(t *testing.T, d *desk.Desk, offices ...int) {
	t.Helper()
	for !strings.HasPrefix(ask(t, d, "lose 0")[0], "error") {
	}
	for range 2 {
		for _, from := range offices {
			for _, to := range offices {
				if from == to {
					continue
				}
				answer := ask(t, d, fmt.Sprintf("offer %d %d", from, to))
				for !strings.HasPrefix(answer[0], "error") {
					answer = ask(t, d, "deliver 0")
				}
			}
		}
	}
}

// queries are commands that ask the same of an office.
func queries(r clerk, many int) []string {
	var lines []string
	for len(lines) < many {
		line := r.query()
		if words := strings.Fields(line); words[0] != "issue" && words[0] != "counts" {
			words[1] = "OFFICE"
			lines = append(lines, strings.Join(words, " "))
		}
	}
	return lines
}

// TestSameRecords is P10.3: offices with the same records tell the same.
func TestSameRecords(t *testing.T) {
	r := clerk{rand.New(rand.NewSource(113))}
	told := 0
	for range 40 {
		d := desk.New()
		for _, line := range r.history(50) {
			ask(t, d, line)
		}
		exchange(t, d, 7, 2, 0, 5)
		records := d.Office(7).Memory.Register.Records
		if len(records) == api.MaxRecords {
			continue
		}
		for _, office := range []int{2, 0, 5} {
			if !slices.Equal(d.Office(office).Memory.Register.Records, records) {
				t.Fatal(office, d.Office(office).Memory.Register.Records, records)
			}
		}
		for _, line := range queries(r, 60) {
			due := ask(t, d, strings.Replace(line, "OFFICE", "7", 1))
			if !strings.HasPrefix(due[0], "error") {
				told++
			}
			for _, office := range []string{"2", "0", "5"} {
				tells(t, d, strings.Replace(line, "OFFICE", office, 1), due...)
			}
		}
	}
	if told < 500 {
		t.Error("little was told:", told)
	}
}

// TestFewest is P10.4: the readings that `fewest` picks settle the volume,
// whatever they tell.
func TestFewest(t *testing.T) {
	r := rand.New(rand.NewSource(114))
	picked := map[int]int{}
	for range 300 {
		fair := r.Intn(100)
		d := deskOf(t, `build 7 7 10 10 2 100 100 200 "0 1000" "0 1000"`,
			fmt.Sprintf(`room 7 7 20 20 3 0 4 5 %d %d "0 1000" "0 1000"`, fair, r.Intn(60)),
			"tape 7 7 20 20 50 0 100 0 0") // the tape 50 errs by nothing
		tries := []api.Try{{Tolerance: r.Intn(20)}, {Water: 1, Tolerance: r.Intn(20)}, {Station: 1, Tolerance: r.Intn(20)}, {Station: 1, Water: 1, Tolerance: r.Intn(20)}}
		for _, x := range tries {
			tells(t, d, fmt.Sprintf("try %d %d %d", x.Station, x.Water, x.Tolerance), "ok")
		}
		width := r.Intn(200)
		answer := ask(t, d, fmt.Sprintf("fewest 7 7 20 20 5 %d", width))
		if same(answer, []string{"error 94"}) {
			continue
		}
		v := surveyAt(t, d, 7, 5, 20, 20)
		system, e := offsets.System(v)
		mustHold(t, e)
		hull, e := bound.Point(system, []int{r.Intn(20000), r.Intn(200), r.Intn(200), r.Intn(200)})
		mustHold(t, e)
		picks := strings.Fields(answer[0])[1:]
		picked[len(picks)]++
		for _, pick := range picks {
			x := tries[pick[0]-'0']
			value := hull[1+2*x.Station+x.Water] + r.Intn(2*x.Tolerance+1) - x.Tolerance
			value = min(max(value, 0), api.MaxBreadth-x.Tolerance)
			ask(t, d, fmt.Sprintf("read 7 7 20 20 5 %d %d %d %d 50", x.Station, x.Water, value, x.Tolerance))
		}
		after := surveyAt(t, d, 7, 5, 20, 20)
		if len(after.Readings) != len(picks) {
			t.Fatal(after.Readings, picks)
		}
		if n := volume(t, after); n.Hi-n.Lo > width {
			t.Error(width, answer, n)
		}
	}
	if picked[1] < 5 || picked[2] < 5 || picked[3] < 5 {
		t.Error("too few choices were picked:", picked)
	}
}
