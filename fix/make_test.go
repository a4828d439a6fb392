package fix_test

import (
	"fmt"
	"testing"

	"jetsam/api"
	"jetsam/fix"
	"jetsam/flow"
	"jetsam/itv"
	"jetsam/num"
	"jetsam/queue"
	"jetsam/rule"
	"jetsam/sample"
	"jetsam/trans"
)

const least, most = -2147483648, 2147483647

// q takes what p sends, on two channels with two tags each.
const chans = "chan c block 2 from p to q { a , b } ; chan d lossy 3 from p to q { a , b } ; "

var empty = itv.Itv{Lo: 1, Hi: 0}

func system(t *testing.T, text string) flow.Sys {
	t.Helper()
	s, err := sample.Text(text)
	if err != api.OK {
		t.Fatalf("%d: %q", err, text)
	}
	return s
}

// quiet is a world in which nothing was ever sent.
func quiet(s flow.Sys) trans.World {
	w := trans.World{S: s, Deaf: trans.Deaf(s)}
	for _, c := range s.Chans {
		w.Elems = append(w.Elems, queue.None(c))
	}
	return w
}

// alone is a world of a process without channels, of three variables.
func alone(t *testing.T, body string) trans.World {
	t.Helper()
	return quiet(system(t, "proc p { var x ; var y ; var z ; "+body+" }"))
}

// sending is one of a process that sends to one that takes all that it likes.
func sending(t *testing.T, body string) trans.World {
	t.Helper()
	return quiet(system(t, chans+"proc p { var x ; var y ; "+body+" } proc q { var x ; while ( 0 == 0 ) { recv c { a ( x ) { } b ( x ) { } } recv d { a ( x ) { } } } }"))
}

func between(lo, hi int) itv.Itv { return itv.Itv{Lo: lo, Hi: hi} }

func only(n int) itv.Itv { return between(n, n) }

// same: nil and empty lists are one, and so they are printed.
func same(a, b any) bool { return fmt.Sprint(a) == fmt.Sprint(b) }

// fixed tells what may be, with a budget that is enough.
func fixed(t *testing.T, w trans.World, proc int) fix.Fixed {
	t.Helper()
	f, err := fix.Fix(w, proc, fix.Bound(w, proc))
	if err != api.OK {
		t.Fatal("of process", proc, "of", w, "error", err)
	}
	return f
}

// wantVars holds the Itvs of each node's variables against what is asked; nil:
// the process is never there.
func wantVars(t *testing.T, text string, f fix.Fixed, want [][]itv.Itv) {
	t.Helper()
	var got [][]itv.Itv
	for _, a := range f.At {
		if trans.Empty(a) {
			got = append(got, nil)
		} else {
			got = append(got, a.N.I)
		}
	}
	if !same(got, want) {
		t.Errorf("%s: %v, want %v", text, got, want)
	}
}

// rows tells the Num of a few rows of numbers.
func rows(n int, list ...[]int) num.Num {
	return sample.NumOf(sample.Hull(n, list))
}

// state is one of two channels, with an amount sent on each; their rules are
// where they begin.
func state(n num.Num, c, d itv.Itv) trans.State {
	return trans.State{N: n, Counts: []itv.Itv{c, d}, Rules: []rule.Set{1, 1}}
}
