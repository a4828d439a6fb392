package sample

import (
	"fmt"
	"math/rand"
	"testing"

	"jetsam/check"
	"jetsam/itv"
	"jetsam/num"
	"jetsam/rule"
	"jetsam/trans"
)

func TestExpressionsAreRight(t *testing.T) {
	random := rand.New(rand.NewSource(9))
	for range 3000 {
		vars := random.Intn(7)
		body := []check.Stmt{{Kind: 6, C: Cond(vars, random.Intn)}, {Kind: 6, C: check.Cond{Op: 1, L: Expr(vars, random.Intn), R: Expr(vars, random.Intn)}}}
		if p := (check.Prog{Procs: []check.Proc{{Vars: vars, Body: body}}}); !check.Right(p) {
			t.Fatal(p)
		}
	}
}

func TestStatesAreOfTheirSystem(t *testing.T) {
	random := rand.New(rand.NewSource(10))
	told := map[string]int{}
	for range 2000 {
		s, _ := Sys(random.Intn)
		w := World(s, random.Intn)
		proc := random.Intn(len(s.Graphs))
		a := State(s, proc, random.Intn)
		if len(w.Elems) != len(s.Chans) || len(w.Deaf) != len(s.Chans) || !num.Right(a.N) || len(a.N.I) != s.Vars[proc] {
			t.Fatal(s, w, a)
		}
		if trans.Empty(a) {
			told["empty"]++
			if fmt.Sprint(a) != fmt.Sprint(trans.None(s, proc)) {
				t.Fatal(a)
			}
			continue
		}
		for at, c := range s.Chans {
			if i := a.Counts[at]; i.Lo > i.Hi || !itv.Within(i, itv.Itv{Hi: c.Size + 1}) {
				t.Fatal(c, a)
			} else if i.Lo >= c.Size {
				told["full"]++
			} else if i.Hi >= c.Size {
				told["at times full"]++
			}
			if list := rule.List(a.Rules[at]); len(list) == 0 || list[len(list)-1] >= max(1, len(c.Rule)) {
				t.Fatal(c, a)
			}
		}
	}
	for _, what := range []string{"empty", "full", "at times full"} {
		if told[what] < 100 {
			t.Error("too few of one kind:", told)
		}
	}
}

func TestSameChoicesSameState(t *testing.T) {
	for _, pick := range []func(int) int{func(n int) int { return 0 }, func(n int) int { return n - 1 }, func(n int) int { return 2 % n }} {
		s, _ := Sys(pick)
		if fmt.Sprint(World(s, pick), State(s, 0, pick)) != fmt.Sprint(World(s, pick), State(s, 0, pick)) {
			t.Error(s)
		}
	}
}
