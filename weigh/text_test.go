package weigh_test

import (
	"slices"
	"strings"
	"testing"

	"moorsom/api"
	"moorsom/weigh"
)

func sameTable(a, b api.Table) bool {
	return slices.Equal(a.Stations, b.Stations) && slices.Equal(a.Waters, b.Waters) && slices.EqualFunc(a.Halves, b.Halves, slices.Equal)
}

var smallTable = api.Table{Stations: []int{0, 5}, Waters: []int{0, 3}, Halves: [][]int{{1, 2}, {3, 4}}}

const smallText = "waters 0 3\nstation 0 1 2\nstation 5 3 4\n"

func TestPrint(t *testing.T) {
	if s, e := weigh.Print(smallTable); s != smallText || e != api.OK {
		t.Errorf("%q %d", s, e)
	}
	want := "waters 0 15000\nstation 0 20000 20000\nstation 100000 20000 20000\n"
	if s, e := weigh.Print(filled([]int{0, api.MaxAlong}, []int{0, api.MaxUp}, api.MaxHalf)); s != want || e != api.OK {
		t.Errorf("%q %d", s, e)
	}
}

func TestParseOfPrint(t *testing.T) {
	for i, x := range validTables() {
		s, e := weigh.Print(x)
		if e != api.OK {
			t.Fatal(i, e)
		}
		if y, n, e := weigh.Parse(s); !sameTable(x, y) || n != 0 || e != api.OK {
			t.Error(i, y, n, e)
		}
	}
}

func TestParseOfOtherForms(t *testing.T) {
	for _, text := range []string{
		smallText,
		strings.TrimSuffix(smallText, "\n"),
		"# a box\n" + smallText,
		"\n\n   \n#\n#waters 9 9\n" + smallText,
		smallText + "\n\n# the end",
		smallText + "  ",
		smallText + "#",
		"  waters   0  3  \n   station 0 1   2\n station   5 3 4    \n",
		"waters 0 3\n# between\nstation 0 1 2\n\nstation 5 3 4",
		"waters 0 3\n#\xff\x00\t\r\nstation 0 1 2\nstation 5 3 4",
		"# " + strings.Repeat("x", 4000-len(smallText)-3) + "\n" + smallText,
	} {
		if x, n, e := weigh.Parse(text); !sameTable(x, smallTable) || n != 0 || e != api.OK {
			t.Errorf("%.80q: %v %d %d", text, x, n, e)
		}
	}
}

func TestParseErrors(t *testing.T) {
	for _, c := range []struct {
		text string
		line int
		e    api.Errno
	}{
		// Nothing is said.
		{"", 1, api.ErrText},
		{"\n", 2, api.ErrText},
		{"\n\n", 3, api.ErrText},
		{"   ", 2, api.ErrText},
		{"# waters 0 3", 2, api.ErrText},
		{"# waters 0 3\n", 2, api.ErrText},
		{"#\n  \n\n#", 5, api.ErrText},
		// The line of the waters.
		{"waters", 1, api.ErrText},
		{"waters\n" + smallText, 1, api.ErrText},
		{"station 0 1 2", 1, api.ErrText},
		{"# first\n\nstation 0 1 2\nwaters 0 3\n", 3, api.ErrText},
		{"water 0 3\n", 1, api.ErrText},
		{"Waters 0 3\n", 1, api.ErrText},
		{"waters0 3\n", 1, api.ErrText},
		{"0 3\n", 1, api.ErrText},
		{" # waters\n" + smallText, 1, api.ErrText},
		{"waters 0 03", 1, api.ErrText},
		{"waters 00 3\n", 1, api.ErrText},
		{"waters 0 +3\n", 1, api.ErrText},
		{"waters 0 -3\n", 1, api.ErrText},
		{"waters -0 3\n", 1, api.ErrText},
		{"waters 0 3.\n", 1, api.ErrText},
		{"waters 0 0x3\n", 1, api.ErrText},
		{"waters 0 1e3\n", 1, api.ErrText},
		{"waters 0 1_0\n", 1, api.ErrText},
		{"waters 0 3\r\nstation 0 1 2\n", 1, api.ErrText},
		{"waters\t0 3\n", 1, api.ErrText},
		{"waters 0\t3\n", 1, api.ErrText},
		{"waters 0\u00a03\n", 1, api.ErrText},
		{"waters 0 \u0663\n", 1, api.ErrText},
		{"waters 0 3\x00\n", 1, api.ErrText},
		{"waters 0 3 # said\n", 1, api.ErrText},
		{"waters 0 /\n", 1, api.ErrText},
		{"waters 0 :\n", 1, api.ErrText},
		{"waters 0 1000000\n", 1, api.ErrText},
		{"waters 0 99999999999999999999999\n", 1, api.ErrText},
		// The lines of stations.
		{"waters 0 3\nstation 0 1\n", 2, api.ErrText},
		{"waters 0 3\nstation 0 1 2 3\n", 2, api.ErrText},
		{"waters 0 3\nstation\n", 2, api.ErrText},
		{"waters 0 3\nstation 0\n", 2, api.ErrText},
		{"waters 0 3\nstations 0 1 2\n", 2, api.ErrText},
		{"waters 0 3\nwaters 0 3\n", 2, api.ErrText},
		{"waters 0 3\n0 1 2\n", 2, api.ErrText},
		{"waters 0 3\nstation x 1 2\n", 2, api.ErrText},
		{"waters 0 3\nstation 01 1 2\n", 2, api.ErrText},
		{"waters 0 3\nstation 0 1 2\n\n# more\nstation 5 3 -4\nstation\n", 5, api.ErrText},
		{"waters 0 3\nstation 0 1 2\nstation 5 3 1234567\n", 3, api.ErrText},
		{smallText + "x", 4, api.ErrText},
		// The first wrong line is meant, also where the table would not be valid.
		{"waters 3 0\nstation 9 1 2\nstation 5 3\nstation\n", 3, api.ErrText},
		// Texts of the right form, of tables that are not valid.
		{"waters 0 3\n", 0, api.ErrTable},
		{"waters 0\nstation 0 1\nstation 5 3\n", 0, api.ErrTable},
		{"waters 0 3\nstation 0 1 2\n", 0, api.ErrTable},
		{"waters 3 0\nstation 0 1 2\nstation 5 3 4\n", 0, api.ErrTable},
		{"waters 0 3\nstation 5 1 2\nstation 0 3 4\n", 0, api.ErrTable},
		{"waters 0 3\nstation 0 1 2\nstation 0 3 4\n", 0, api.ErrTable},
		{"waters 0 15001\nstation 0 1 2\nstation 5 3 4\n", 0, api.ErrTable},
		{"waters 0 999999\nstation 0 1 2\nstation 5 3 4\n", 0, api.ErrTable},
		{"waters 0 3\nstation 0 1 2\nstation 100001 3 4\n", 0, api.ErrTable},
		{"waters 0 3\nstation 0 1 2\nstation 5 3 20001\n", 0, api.ErrTable},
		{"waters 0 1 2 3 4 5 6 7\nstation 0 0 0 0 0 0 0 0 0\nstation 5 0 0 0 0 0 0 0 0\n", 0, api.ErrTable},
		{"waters 0 3\n" + strings.Repeat("station 0 1 2\n", 10), 0, api.ErrTable},
		// Texts that are too long.
		{strings.Repeat("\n", 4000), 4001, api.ErrText},
		{strings.Repeat("\n", 4001), 0, api.ErrLong},
		{strings.Repeat("#", 4001), 0, api.ErrLong},
		{"#" + strings.Repeat("x", 4000-len(smallText)-1) + "\n" + smallText, 0, api.ErrLong},
		{strings.Repeat("x", 4000), 1, api.ErrText},
		{strings.Repeat("x", 100000), 0, api.ErrLong},
		{"waters " + strings.Repeat("1", 3993), 1, api.ErrText},
		{"waters" + strings.Repeat(" 0", 1997), 0, api.ErrTable},
	} {
		if x, n, e := weigh.Parse(c.text); !sameTable(x, api.Table{}) || n != c.line || e != c.e {
			t.Errorf("%.80q: %v %d %d; want %d %d", c.text, x, n, e, c.line, c.e)
		}
	}
}

// TestParseOfSpoiltTexts changes, leaves out and doubles each byte of a text:
// what is read then is said by the text, and what is not read has its error.
func TestParseOfSpoiltTexts(t *testing.T) {
	for at := range smallText {
		spoilt := []string{smallText[:at], smallText[:at] + smallText[at+1:], smallText[:at+1] + smallText[at:]}
		for _, b := range []byte(" \n#0-+9x\x00\xff\t") {
			spoilt = append(spoilt, smallText[:at]+string([]byte{b})+smallText[at+1:])
		}
		for _, text := range spoilt {
			x, n, e := weigh.Parse(text)
			switch e {
			case api.OK:
				if weigh.CheckTable(x) != api.OK || n != 0 || !saysTable(text, x) {
					t.Errorf("%q: %v %d", text, x, n)
				}
			case api.ErrTable:
				if n != 0 || !sameTable(x, api.Table{}) {
					t.Errorf("%q: %v %d", text, x, n)
				}
			case api.ErrText:
				if n < 1 || n > strings.Count(text, "\n")+2 || !sameTable(x, api.Table{}) {
					t.Errorf("%q: %v %d", text, x, n)
				}
			default:
				t.Errorf("%q: %d", text, e)
			}
		}
	}
}

// saysTable tells whether a text is that of a table, but for spaces, and for
// lines that say nothing.
func saysTable(text string, x api.Table) bool {
	printed, _ := weigh.Print(x)
	var said strings.Builder
	for line := range strings.SplitSeq(text, "\n") {
		if words := strings.FieldsFunc(line, func(r rune) bool { return r == ' ' }); len(words) > 0 && line[0] != '#' {
			said.WriteString(strings.Join(words, " ") + "\n")
		}
	}
	return said.String() == printed
}
