package outer_test

import (
	"fmt"
	"math/rand"
	"slices"
	"strconv"
	"strings"
	"testing"

	"jetsam/api"
	"jetsam/fix"
	"jetsam/flow"
	"jetsam/itv"
	"jetsam/outer"
	"jetsam/queue"
	"jetsam/sample"
	"jetsam/step"
	"jetsam/trans"
)

const least, most = -2147483648, 2147483647

var empty = itv.Itv{Lo: 1, Hi: 0}

func system(t *testing.T, text string) flow.Sys {
	t.Helper()
	s, err := sample.Text(text)
	if err != api.OK {
		t.Fatalf("%d: %q", err, text)
	}
	return s
}

func between(lo, hi int) itv.Itv { return itv.Itv{Lo: lo, Hi: hi} }

func only(n int) itv.Itv { return between(n, n) }

// elem tells of up to so many messages, of tags with these numbers.
func elem(many int, vals ...itv.Itv) queue.Elem {
	return queue.Elem{Len: between(0, many), Vals: vals}
}

func alarm(proc, edge, kind int) fix.Alarm {
	return fix.Alarm{Proc: proc, Edge: edge, Kind: kind}
}

// same: nil and empty lists are one, and so they are printed.
func same(a, b any) bool { return fmt.Sprint(a) == fmt.Sprint(b) }

// analyzed tells what may be, with a budget that is enough.
func analyzed(t *testing.T, s flow.Sys) outer.Result {
	t.Helper()
	r, err := outer.Analyze(s, outer.Bound(s))
	if err != api.OK {
		t.Fatal("of", s, "error", err)
	}
	return r
}

// vars tells the Itvs of each node's variables; nil: the process is never there.
func vars(at []trans.State) [][]itv.Itv {
	var list [][]itv.Itv
	for _, a := range at {
		if trans.Empty(a) {
			list = append(list, nil)
		} else {
			list = append(list, a.N.I)
		}
	}
	return list
}

// script makes one of so many picks.
func script(s flow.Sys, many int, random *rand.Rand) []step.Pick {
	var list []step.Pick
	lossy := random.Intn(3)
	for range many {
		list = append(list, step.Pick{Proc: random.Intn(len(s.Graphs)), Lose: random.Intn(3) < lossy, Input: sample.Number(random.Intn)})
	}
	return list
}

// anySystem makes one of any kind: whose runs are short or long, or in which
// each process goes on and on with what it takes from another one.
func anySystem(t *testing.T, random *rand.Rand) flow.Sys {
	t.Helper()
	switch random.Intn(7) {
	case 0, 1:
		s, _ := sample.Sys(random.Intn)
		return s
	case 2, 3:
		s, _ := sample.CalmSys(random.Intn)
		return s
	case 4:
		return system(t, vain(random.Intn(8), random.Intn(8), random.Intn(8), random.Intn(4)))
	}
	return system(t, sample.Ring(random.Intn))
}

// vain writes a text in which p may send the less, the more it may be sent:
// where x may be all of what is up to most, the loop needn't be widened.
func vain(first, other, most, more int) string {
	text := "chan c block 2 from q to p { a } ; chan d block 2 from p to q { a } ; " +
		"proc p { var x ; while ( 0 == 0 ) { recv c { a ( x ) { if ( x > MOST ) { x = MOST ; } while ( x < MOST ) { x = x + 1 ; } send d . a ( x + MORE ) ; } } } } " +
		"proc q { var y ; send c . a ( FIRST ) ; recv d { a ( y ) { send c . a ( OTHER ) ; assert ( y < 9 ) ; } } }"
	for name, n := range map[string]int{"FIRST": first, "OTHER": other, "MOST": most, "MORE": more} {
		text = strings.ReplaceAll(text, name, strconv.Itoa(n))
	}
	return text
}

// without tells a list without one of its parts.
func without[T any](list []T, at int) []T {
	return slices.Delete(slices.Clone(list), at, at+1)
}
