package shell_test

import (
	"math/rand"
	"slices"
	"strings"
	"testing"

	"jetsam/api"
	"jetsam/ast"
	"jetsam/check"
	"jetsam/flow"
	"jetsam/lex"
	"jetsam/sample"
)

// handed: p sends 3 to q, which asserts that it is.
const handed = "chan c block 1 from p to q { a } ; proc p { var x ; x = 1 + 2 ; send c . a ( x ) ; } proc q { var y ; recv c { a ( y ) { assert ( y == 3 ) ; } } }"

// lines tells a text of these, each with a line end.
func lines(list ...string) string { return strings.Join(list, "\n") + "\n" }

// cut tells a text's lines, and fails the test if one has no end.
func cut(t *testing.T, text string) []string {
	t.Helper()
	list := strings.Split(text, "\n")
	last := len(list) - 1
	if list[last] != "" || slices.Contains(list[:last], "") {
		t.Fatalf("not lines: %q", text)
	}
	return list[:last]
}

// system is one that a text was made of. Of some no graphs can be made.
type system struct {
	text string
	sys  flow.Sys
	err  api.Errno
}

// anySystem makes one without its text being read.
func anySystem(t *testing.T, random *rand.Rand) system {
	t.Helper()
	for {
		p := sample.Calm(random.Intn)
		if random.Intn(2) == 0 {
			p = sample.Prog(random.Intn)
		}
		text, err := ast.Text(sample.Named(p))
		if err == api.ErrLong {
			continue
		}
		if err != api.OK || !check.Right(p) {
			t.Fatal(p, err)
		}
		s, err := flow.Build(p)
		return system{text, s, err}
	}
}

// ring makes one whose processes send to each other round and round.
func ring(t *testing.T, random *rand.Rand) system {
	t.Helper()
	text := sample.Ring(random.Intn)
	s, err := sample.Text(text)
	if err != api.OK {
		t.Fatalf("%d: %q", err, text)
	}
	return system{text, s, err}
}

// anyText makes that of a system, or one that is spoilt.
func anyText(t *testing.T, random *rand.Rand) string {
	t.Helper()
	text := anySystem(t, random).text
	if random.Intn(4) == 0 {
		text = sample.Ring(random.Intn)
	}
	switch random.Intn(4) {
	case 0:
		return strings.Join(spoilWords(strings.Fields(text), random), " ")
	case 1:
		return strings.Join(spoilNames(strings.Fields(text), random), " ")
	case 2:
		return spoilBytes(text, random)
	}
	return text
}

// spoilWords puts some of a text's own words where others stand.
func spoilWords(words []string, random *rand.Rand) []string {
	for range 1 + random.Intn(2) {
		at, other := random.Intn(len(words)), words[random.Intn(len(words))]
		switch random.Intn(4) {
		case 0:
			words = slices.Insert(words, at, other)
		case 1:
			words = append(slices.Delete(words, at, at+1), ";")
		default:
			words[at] = other
		}
	}
	return words
}

// spoilNames puts another name, or another number, where one stands.
func spoilNames(words []string, random *rand.Rand) []string {
	others := []string{"a", "b", "c", "c0", "p1", "x", "y", "0", "8", "99"}
	isNumber := func(word string) bool { return word[0] >= '0' && word[0] <= '9' }
	isName := func(word string) bool { return word[0] >= 'a' && word[0] <= 'z' && !lex.Reserved(word) }
	for range 20 {
		at, other := random.Intn(len(words)), others[random.Intn(len(others))]
		if isNumber(words[at]) && isNumber(other) || isName(words[at]) && isName(other) {
			words[at] = other
			break
		}
	}
	return words
}

func spoilBytes(text string, random *rand.Rand) string {
	list := []byte(text)
	for range 1 + random.Intn(2) {
		list[random.Intn(len(list))] = "abcpqxy019{}();=+- \n\x00\xffA"[random.Intn(23)]
	}
	return string(list[:len(list)-random.Intn(2)*random.Intn(len(list))])
}

// picks are signs that are, and others.
const picks = "00112233abcd.4eA/`\x00\xff é"

// script makes one of so many bytes.
func script(many int, random *rand.Rand) string {
	signs := []string{"0123", "01", "0123abcd", picks}[random.Intn(4)]
	var text strings.Builder
	for range many {
		text.WriteByte(signs[random.Intn(len(signs))])
	}
	return text.String()
}
