package register

import (
	"iter"

	"moorsom/api"
)

const (
	maxBytes       = 100000 // of a file
	maxGeneration  = 1000000000
	letters        = "moor" // at the beginning of a head
	generationSize = 4
	countSize      = 2
	headSize       = len(letters) + generationSize + countSize
)

// head is that of a file with so many records at least.
func head(generation, count int) []byte {
	b := appendNumber([]byte(letters), generation, generationSize)
	return appendNumber(b, count, countSize)
}

// appendFrame puts the frame of a valid record behind bytes.
func appendFrame(b []byte, r api.Record) []byte {
	record := encoded(r)
	b = appendNumber(b, len(record), 1)
	return append(b, record...)
}

// frames yields the records of what stands behind a head, as far as frames
// are complete and have the bytes of a valid record, each with the index
// behind its frame.
func frames(b []byte) iter.Seq2[int, api.Record] {
	return func(yield func(int, api.Record) bool) {
		for end := headSize; end < len(b); {
			begin := end + 1
			end = begin + int(b[end])
			if end > len(b) {
				return
			}
			r, e := Decode(b[begin:end])
			if e != api.OK || !yield(end, r) {
				return
			}
		}
	}
}

// A content is what a file tells that counts.
type content struct {
	generation int
	records    []api.Record // in the order of the frames
	size       int          // of the head and the frames of these records
}

// content takes a whole file.
func (l *reader) content() content {
	whole := l.left
	if string(l.take(len(letters))) != letters {
		panic(wrong{})
	}
	c := content{generation: l.number(generationSize), size: headSize}
	count := l.number(countSize)
	for end, r := range frames(whole) {
		c.records = append(c.records, r)
		c.size = end
	}
	if !inside(c.generation, 1, maxGeneration) || len(c.records) < count {
		panic(wrong{})
	}
	return c
}

// contentOf returns what a file tells, and whether it counts.
func contentOf(f api.File) (content, bool) {
	var c content
	l := reader{f.Bytes}
	counts := isRight(func() { c = l.content() })
	return c, counts
}
