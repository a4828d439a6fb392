package trans_test

import (
	"fmt"
	"testing"

	"jetsam/api"
	"jetsam/flow"
	"jetsam/itv"
	"jetsam/num"
	"jetsam/queue"
	"jetsam/rule"
	"jetsam/sample"
	"jetsam/trans"
)

const least, most = -2147483648, 2147483647

var (
	empty  = itv.Itv{Lo: 1, Hi: 0}
	unsent = trans.Sent{Chan: -1, Tag: 0, Vals: empty}
)

func system(t *testing.T, text string) flow.Sys {
	t.Helper()
	s, err := sample.Text(text)
	if err != api.OK {
		t.Fatalf("%q: %d", text, err)
	}
	return s
}

// world is one in which nothing was ever sent.
func world(s flow.Sys) trans.World {
	w := trans.World{S: s, Deaf: trans.Deaf(s)}
	for _, c := range s.Chans {
		w.Elems = append(w.Elems, queue.None(c))
	}
	return w
}

func between(lo, hi int) itv.Itv { return itv.Itv{Lo: lo, Hi: hi} }

// box tells the numbers of which each is of its Itv.
func box(list ...itv.Itv) num.Num {
	a := num.Top(len(list))
	for x, i := range list {
		a = num.Meet(a, x, i)
	}
	return a
}

// one tells a state of one channel.
func one(n num.Num, count itv.Itv, states rule.Set) trans.State {
	return trans.State{N: n, Counts: []itv.Itv{count}, Rules: []rule.Set{states}}
}

// same: nil and empty lists are one, and so they are printed.
func same(a, b any) bool { return fmt.Sprint(a) == fmt.Sprint(b) }

func want(t *testing.T, what string, got, want trans.State, of ...any) {
	t.Helper()
	if !same(got, want) {
		t.Errorf("%s of %v: %v, want %v", what, of, got, want)
	}
}

// wantStep holds all that Step tells against what is asked.
func wantStep(t *testing.T, w trans.World, proc, edge int, a, behind trans.State, sent trans.Sent, kinds ...int) {
	t.Helper()
	got, gotSent, gotKinds := trans.Step(w, proc, edge, a)
	if !same(got, behind) || gotSent != sent || !same(gotKinds, kinds) {
		t.Errorf("behind edge %d of process %d, %v: %v, %v, %v, want %v, %v, %v", edge, proc, a, got, gotSent, gotKinds, behind, sent, kinds)
	}
}
