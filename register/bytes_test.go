package register_test

import (
	"bytes"
	"slices"
	"strings"
	"testing"

	"moorsom/api"
	"moorsom/register"
)

func TestEncodeExample(t *testing.T) {
	want := slices.Concat([]byte{1, 0, 0, 2, 0, 10, 0, 0, 0, 5, 0, 0, 0, 6, 0, 0, 0, 0, 0, 0, 0, 0, 5}, []byte("build"))
	b, e := register.Encode(x())
	if e != api.OK || !bytes.Equal(b, want) || len(b) != 28 {
		t.Error(b, e)
	}
	if r, e := register.Decode(want); e != api.OK || r != x() {
		t.Error(r, e)
	}
}

// TestEncodeNumbers: each number has its bytes, the most significant one first.
func TestEncodeNumbers(t *testing.T) {
	l := api.Record{At: place(3, 0x1234), Kind: 1, Ship: 0x309, Day: 0x12345, Known: 0x10203, To: 8, Until: 0x12346}
	b, e := register.Encode(l)
	want := []byte{3, 0x12, 0x34, 1, 3, 9, 0, 1, 0x23, 0x45, 0, 1, 2, 3, 0, 0, 0, 8, 0, 1, 0x23, 0x46, 0}
	if e != api.OK || !bytes.Equal(b, want) {
		t.Error(b, e)
	}
	w := api.Record{At: place(8, 9999), Known: 7, Of: place(8, 0x1122)}
	b, e = register.Encode(w)
	want = []byte{8, 0x27, 0x0f, 0, 0, 0, 0, 0, 0, 0, 0, 0, 0, 7, 8, 0x11, 0x22, 0, 0, 0, 0, 0, 0}
	if e != api.OK || !bytes.Equal(b, want) {
		t.Error(b, e)
	}
	b, e = register.Encode(happening(0, 0, 1, 1, strings.Repeat("~", 200)))
	if e != api.OK || len(b) != 223 || b[22] != 200 {
		t.Error(b, e)
	}
}

func TestEncodeInvalid(t *testing.T) {
	for _, r := range []api.Record{{}, happening(9, 0, 1, 1, ""), happening(0, 0, 256, 1, "\x7f"), happening(0, 0, 1, 1, strings.Repeat("x", 201)), told(-1, x())} {
		if b, e := register.Encode(r); len(b) != 0 || e != api.ErrRecord {
			t.Error(r, b, e)
		}
	}
}

// TestBytes is P7.2: Decode of Encode returns the record.
func TestBytes(t *testing.T) {
	for i, r := range append(plain(), x(), y(), z()) {
		b, e := register.Encode(r)
		if e != api.OK || !bytes.Equal(b, bytesOf(r)) {
			t.Error(i, b, e)
		}
	}
	registers(t, 21, 300, func(m maker, g api.Register) {
		for _, r := range g.Records {
			b, e := register.Encode(r)
			if e != api.OK || !bytes.Equal(b, bytesOf(r)) {
				t.Fatal(r, b, e)
			}
			if back, e := register.Decode(b); e != api.OK || back != r {
				t.Fatal(r, back, e)
			}
		}
	})
}

// TestSpoiltBytes is P7.2 for bytes that are near those of records: Encode of
// what Decode returns is the string of bytes, and there is no other record.
func TestSpoiltBytes(t *testing.T) {
	for _, r := range append(plain(), x()) {
		whole := bytesOf(r)
		for i := range whole {
			if back, e := register.Decode(whole[:i]); back != (api.Record{}) || e != api.ErrRecord {
				t.Error(r, i, back, e)
			}
			spoilt := slices.Clone(whole)
			for b := range 256 {
				spoilt[i] = byte(b)
				back, e := register.Decode(spoilt)
				if e != api.OK && e != api.ErrRecord || e != api.OK && back != (api.Record{}) {
					t.Fatal(spoilt, back, e)
				}
				if again, _ := register.Encode(back); e == api.OK && !bytes.Equal(again, spoilt) {
					t.Fatal(spoilt, back)
				}
				// The record that these bytes spell, if it is valid.
				spelt := spell(spoilt)
				if valid := register.CheckRecord(spelt) == api.OK && len(spoilt) == 23+int(spoilt[22]); valid != (e == api.OK) || valid && back != spelt {
					t.Fatal(spoilt, spelt, e)
				}
			}
		}
		for _, more := range []string{"\x00", " ", "more"} {
			if back, e := register.Decode(append(slices.Clone(whole), more...)); back != (api.Record{}) || e != api.ErrRecord {
				t.Error(r, more, back, e)
			}
		}
	}
}

// spell is the record that bytes spell, whatever they are.
func spell(b []byte) api.Record {
	number := func(from, to int) int {
		n := 0
		for _, d := range b[from:to] {
			n = 256*n + int(d)
		}
		return n
	}
	return api.Record{
		At: place(number(0, 1), number(1, 3)), Kind: number(3, 4), Ship: number(4, 6), Day: number(6, 10), Known: number(10, 14),
		Of: place(number(14, 15), number(15, 17)), To: number(17, 18), Until: number(18, 22), Text: string(b[23:]),
	}
}

func TestDecodeNothing(t *testing.T) {
	for _, b := range [][]byte{nil, {}, {0}, make([]byte, 23), bytes.Repeat([]byte{255}, 300), make([]byte, 100000)} {
		if r, e := register.Decode(b); r != (api.Record{}) || e != api.ErrRecord {
			t.Error(len(b), r, e)
		}
	}
}
