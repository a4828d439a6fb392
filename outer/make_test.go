package outer_test

import (
	"fmt"
	"math/rand"
	"slices"
	"strconv"
	"strings"
	"testing"

	"jetsam/api"
	"jetsam/fix"
	"jetsam/flow"
	"jetsam/itv"
	"jetsam/outer"
	"jetsam/queue"
	"jetsam/sample"
	"jetsam/step"
	"jetsam/trans"
)

const least, most = -2147483648, 2147483647

var empty = itv.Itv{Lo: 1, Hi: 0}

func system(t *testing.T, text string) flow.Sys {
	t.Helper()
	s, err := sample.Text(text)
	if err != api.OK {
		t.Fatalf("%d: %q", err, text)
	}
	return s
}

func between(lo, hi int) itv.Itv { return itv.Itv{Lo: lo, Hi: hi} }

func only(n int) itv.Itv { return between(n, n) }

// elem tells of up to so many messages, of tags with these numbers.
func elem(many int, vals ...itv.Itv) queue.Elem {
	return queue.Elem{Len: between(0, many), Vals: vals}
}

func alarm(proc, edge, kind int) fix.Alarm {
	return fix.Alarm{Proc: proc, Edge: edge, Kind: kind}
}

// same: nil and empty lists are one, and so they are printed.
func same(a, b any) bool { return fmt.Sprint(a) == fmt.Sprint(b) }

// analyzed tells what may be, with a budget that is enough.
func analyzed(t *testing.T, s flow.Sys) outer.Result {
	t.Helper()
	r, err := outer.Analyze(s, outer.Bound(s))
	if err != api.OK {
		t.Fatal("of", s, "error", err)
	}
	return r
}

// vars tells the Itvs of each node's variables; nil: the process is never there.
func vars(at []trans.State) [][]itv.Itv {
	var list [][]itv.Itv
	for _, a := range at {
		if trans.Empty(a) {
			list = append(list, nil)
		} else {
			list = append(list, a.N.I)
		}
	}
	return list
}

// script makes one of so many picks.
func script(s flow.Sys, many int, random *rand.Rand) []step.Pick {
	var list []step.Pick
	lossy := random.Intn(3)
	for range many {
		list = append(list, step.Pick{Proc: random.Intn(len(s.Graphs)), Lose: random.Intn(3) < lossy, Input: sample.Number(random.Intn)})
	}
	return list
}

// anySystem makes one of any kind: whose runs are short or long, or in which
// each process goes on and on with what it takes from another one.
func anySystem(t *testing.T, random *rand.Rand) flow.Sys {
	t.Helper()
	switch random.Intn(7) {
	case 0, 1:
		s, _ := sample.Sys(random.Intn)
		return s
	case 2, 3:
		s, _ := sample.CalmSys(random.Intn)
		return s
	case 4:
		return system(t, vain(random.Intn(8), random.Intn(8), random.Intn(8), random.Intn(4)))
	}
	return system(t, ring(random))
}

// vain writes a text in which p may send the less, the more it may be sent:
// where x may be all of what is up to most, the loop needn't be widened.
func vain(first, other, most, more int) string {
	text := "chan c block 2 from q to p { a } ; chan d block 2 from p to q { a } ; " +
		"proc p { var x ; while ( 0 == 0 ) { recv c { a ( x ) { if ( x > MOST ) { x = MOST ; } while ( x < MOST ) { x = x + 1 ; } send d . a ( x + MORE ) ; } } } } " +
		"proc q { var y ; send c . a ( FIRST ) ; recv d { a ( y ) { send c . a ( OTHER ) ; assert ( y < 9 ) ; } } }"
	for name, n := range map[string]int{"FIRST": first, "OTHER": other, "MOST": most, "MORE": more} {
		text = strings.ReplaceAll(text, name, strconv.Itoa(n))
	}
	return text
}

// ring writes a text of processes each of which sends to the next one.
func ring(random *rand.Rand) string {
	many := 2 + random.Intn(3)
	var text, rules strings.Builder
	for at := range many {
		from, to := strconv.Itoa(at), strconv.Itoa((at+1)%many)
		kind := []string{"block", "drop", "lossy"}[random.Intn(3)]
		text.WriteString("chan c" + from + " " + kind + " " + strconv.Itoa(1+random.Intn(3)) + " from p" + from + " to p" + to + " { a , b } ; ")
		if random.Intn(2) == 0 {
			rules.WriteString("rule c" + from + " { 0 a 1 ; 0 b 0 ; 1 a " + strconv.Itoa(random.Intn(3)) + " ; 1 b 1 ; 2 b 2 ; } ")
		}
	}
	text.WriteString(rules.String())
	for at := range many {
		own, ahead := "c"+strconv.Itoa(at), "c"+strconv.Itoa((at+many-1)%many)
		text.WriteString("proc p" + strconv.Itoa(at) + " { var x ; var y ; ")
		if random.Intn(3) == 0 {
			text.WriteString("send " + own + " . a ( " + strconv.Itoa(random.Intn(5)) + " ) ; ")
		}
		text.WriteString("while ( 0 == 0 ) { recv " + ahead + " { a ( x ) { " + answer(own, random) + "} ")
		if random.Intn(4) > 0 {
			text.WriteString("b ( x ) { " + answer(own, random) + "} ")
		}
		text.WriteString("} } } ")
	}
	return text.String()
}

// answer writes what is done with x, when it was taken.
func answer(own string, random *rand.Rand) string {
	parts := []string{
		"send OWN . a ( x ) ; ", "send OWN . b ( x + 1 ) ; ", "send OWN . a ( x - 1 ) ; ",
		"send OWN . a ( x / 2 + 10 ) ; ", "send OWN . b ( 7 ) ; ", "send OWN . b ( y ) ; ",
		"if ( x < 20 ) { send OWN . a ( x + 1 ) ; } ", "if ( x > 3 ) { y = 3 ; } else { y = x ; } ",
		"if ( x > 5 ) { x = 5 ; } while ( x < 5 ) { x = x + 1 ; } ", "y = y + 1 ; ", "if ( x >= 0 ) { y = x % 7 ; } ",
		"if ( x != 20 ) { send OWN . b ( y ) ; } ", "assert ( x < 100 ) ; ", "y = 100 / x ; ", "input y ; ",
	}
	var text strings.Builder
	for range 1 + random.Intn(3) {
		text.WriteString(strings.ReplaceAll(parts[random.Intn(len(parts))], "OWN", own))
	}
	return text.String()
}

// without tells a list without one of its parts.
func without[T any](list []T, at int) []T {
	return slices.Delete(slices.Clone(list), at, at+1)
}
