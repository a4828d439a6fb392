package check_test

import (
	"fmt"
	"strings"
	"testing"

	"jetsam/api"
	"jetsam/ast"
	"jetsam/check"
	"jetsam/parse"
)

// system reads a text that must be one's.
func system(t *testing.T, text string) ast.System {
	t.Helper()
	s, at, err := parse.Parse(text)
	if err != api.OK {
		t.Fatalf("%q: %d at %d", text, err, at)
	}
	return s
}

func wantProg(t *testing.T, text string, want check.Prog) {
	t.Helper()
	p, err := check.Check(system(t, text))
	if err != api.OK || !same(p, want) {
		t.Errorf("%q:\n%v %d, want\n%v", text, p, err, want)
	}
	if !check.Right(p) {
		t.Errorf("%q: not Right", text)
	}
}

func wantErr(t *testing.T, what string, s ast.System, want api.Errno) {
	t.Helper()
	p, err := check.Check(s)
	if err != want {
		t.Errorf("%.300s: %d, want %d", what, err, want)
	}
	if err != api.OK && !same(p, check.Prog{}) {
		t.Errorf("%.300s: a system beside an error", what)
	}
	if err == api.OK && !check.Right(p) {
		t.Errorf("%.300s: not Right", what)
	}
}

func wantTextErr(t *testing.T, text string, want api.Errno) {
	t.Helper()
	wantErr(t, text, system(t, text), want)
}

// same: nil and empty lists are one, and so they are printed.
func same(a, b check.Prog) bool { return fmt.Sprint(a) == fmt.Sprint(b) }

// repeat wraps a thing so many times.
func repeat[T any](x T, times int, wrap func(T) T) T {
	for range times {
		x = wrap(x)
	}
	return x
}

// row writes a list of what part tells of 0 to n-1.
func row(n int, between string, part func(i int) string) string {
	var parts []string
	for i := range n {
		parts = append(parts, part(i))
	}
	return strings.Join(parts, between)
}
