package register

import "moorsom/api"

// A field is a number of a record, with how many bytes it has.
type field struct {
	number *int
	size   int
}

// fields are the numbers of a record in the order of its bytes: those that
// are written are those that are read. The text is behind them.
func fields(r *api.Record) []field {
	return []field{
		{&r.At.Office, 1}, {&r.At.Seq, 2}, {&r.Kind, 1}, {&r.Ship, 2}, {&r.Day, 4}, {&r.Known, 4},
		{&r.Of.Office, 1}, {&r.Of.Seq, 2}, {&r.To, 1}, {&r.Until, 4},
	}
}

// appendNumber puts a number of so many bytes behind others.
func appendNumber(b []byte, n, size int) []byte {
	for size > 0 {
		size--
		b = append(b, byte(n>>(8*size)))
	}
	return b
}

// encoded are the bytes of a valid record.
func encoded(r api.Record) []byte {
	var b []byte
	for _, f := range fields(&r) {
		b = appendNumber(b, *f.number, f.size)
	}
	b = appendNumber(b, len(r.Text), 1)
	return append(b, r.Text...)
}

// A reader has what is left of bytes that are read.
type reader struct{ left []byte }

// wrong is what a reader panics with, if bytes are not as they should be.
type wrong struct{}

// take takes so many bytes.
func (l *reader) take(many int) []byte {
	if many > len(l.left) {
		panic(wrong{})
	}
	taken := l.left[:many]
	l.left = l.left[many:]
	return taken
}

// number takes a number of so many bytes.
func (l *reader) number(size int) int {
	n := 0
	for _, b := range l.take(size) {
		n = n<<8 | int(b)
	}
	return n
}

// record takes a record, which has to be all that is left.
func (l *reader) record() api.Record {
	var r api.Record
	for _, f := range fields(&r) {
		*f.number = l.number(f.size)
	}
	length := l.number(1)
	r.Text = string(l.take(length))
	if len(l.left) > 0 || !isRecord(r) {
		panic(wrong{})
	}
	return r
}

// isRight reports whether nothing is wrong in the bytes that something reads.
func isRight(read func()) (right bool) {
	defer func() { right = recover() == nil }()
	read()
	return true
}

// Encode returns the bytes of a record.
func Encode(r api.Record) ([]byte, api.Errno) {
	if e := CheckRecord(r); e != api.OK {
		return nil, e
	}
	return encoded(r), api.OK
}

// Decode returns the record whose bytes they are.
func Decode(b []byte) (api.Record, api.Errno) {
	var r api.Record
	l := reader{b}
	if !isRight(func() { r = l.record() }) {
		return api.Record{}, api.ErrRecord
	}
	return r, api.OK
}
