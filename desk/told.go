package desk

import (
	"strconv"
	"strings"

	"moorsom/api"
)

// What is told: answers are lists of lines.

// row writes numbers.
func row(numbers ...int) string {
	var words []string
	for _, n := range numbers {
		words = append(words, strconv.Itoa(n))
	}
	return strings.Join(words, " ")
}

// named writes a word and numbers.
func named(word string, numbers ...int) string {
	if len(numbers) == 0 {
		return word
	}
	return word + " " + row(numbers...)
}

// readNamed reads what named writes for a word.
func readNamed(line, word string) ([]int, bool) {
	var numbers []int
	for _, w := range strings.Split(line, " ")[1:] {
		// What is no number is written in another way.
		n, _ := strconv.Atoi(w)
		numbers = append(numbers, n)
	}
	return numbers, named(word, numbers...) == line
}

// each writes a line for each item of a list.
func each[T any](list []T, line func(T) string) []string {
	var lines []string
	for _, item := range list {
		lines = append(lines, line(item))
	}
	return lines
}

// orNone is the answer that has these lines.
func orNone(lines []string) []string {
	if len(lines) == 0 {
		return []string{"none"}
	}
	return lines
}

func ofRange(r api.Range) string { return row(r.Lo, r.Hi) }

func ofPlace(p api.Place) string { return row(p.Office, p.Seq) }

func ofPost(p api.Post) string { return row(p.Known, p.Passage, p.Amount) }

func ofUse(u api.Use) string { return named("use", u.Limit, u.Times) }

func ofHalves(halves []int) string { return named("row", halves...) }

func ofRoom(r api.Room) string {
	return named("room", r.Id, r.Kind, r.Opening, r.Crew, r.Litres.Lo, r.Litres.Hi)
}

func ofCert(c api.Cert) string {
	gross, net := c.Figures.Gross, c.Figures.Net
	return row(c.From, c.To, c.Flag, gross.Lo, gross.Hi, net.Lo, net.Hi)
}

// ofAnswer writes an answer of layer 6.
func ofAnswer(n int) string {
	return []string{api.No: "no", api.Yes: "yes", api.Maybe: "maybe"}[n]
}

// ofProof writes a proof, readProof reads it.

func ofProof(p api.Proof) []string {
	return append([]string{named("bound", p.Bound)}, each(p.Uses, ofUse)...)
}

func readProof(lines []string) (api.Proof, bool) {
	first, isRight := readNamed(lines[0], "bound")
	if !isRight || len(first) != 1 {
		return api.Proof{}, false
	}
	p := api.Proof{Bound: first[0]}
	for _, line := range lines[1:] {
		use, isRight := readNamed(line, "use")
		if !isRight || len(use) != 2 {
			return api.Proof{}, false
		}
		p.Uses = append(p.Uses, api.Use{Limit: use[0], Times: use[1]})
	}
	return p, true
}

// ofWitness writes a witness, readWitness reads it.

func ofWitness(w api.Witness) []string {
	return append([]string{named("leg", w.Leg, w.Dense, w.Mass)}, each(w.Hull.Rows, ofHalves)...)
}

func readWitness(lines []string) (api.Witness, bool) {
	first, isRight := readNamed(lines[0], "leg")
	if !isRight || len(first) != 3 {
		return api.Witness{}, false
	}
	w := api.Witness{Leg: first[0], Dense: first[1], Mass: first[2]}
	for _, line := range lines[1:] {
		halves, isRight := readNamed(line, "row")
		if !isRight {
			return api.Witness{}, false
		}
		w.Hull.Rows = append(w.Hull.Rows, halves)
	}
	return w, true
}
