package eval_test

import (
	"fmt"
	"math"
	"math/rand"
	"slices"
	"testing"

	"jetsam/check"
	"jetsam/eval"
	"jetsam/itv"
	"jetsam/num"
	"jetsam/sample"
)

// Of Nums that are made by ever more changes all that is told is Right.
func TestP13_2_WhatIsToldIsRight(t *testing.T) {
	random := rand.New(rand.NewSource(141))
	told := map[bool]int{}
	for range 2000 {
		n := 1 + random.Intn(6)
		a := sample.Num(n, random.Intn)
		for range 20 {
			before := a
			if random.Intn(2) == 0 {
				a, _ = eval.Assign(a, random.Intn(n), anyExpr(n, random))
			} else {
				a, _ = eval.Assume(a, anyCond(n, random))
			}
			if !num.Right(a) || len(a.I) != n {
				t.Fatal(before, a)
			}
			told[a.None]++
			if a.None {
				a = before
			}
		}
	}
	if told[true] < 1000 || told[false] < 1000 {
		t.Error("too few of one kind:", told)
	}
}

// roomy has spare room behind its list, with something in it.
func roomy(a num.Num) num.Num {
	a.I = append(slices.Clone(a.I), between(99, 99))[:len(a.I)]
	return a
}

// spoil writes over all of a list, its spare room, too.
func spoil(a num.Num) {
	list := a.I[:cap(a.I)]
	for at := range list {
		list[at] = between(77, -77)
	}
}

func TestP13_3_NothingIsChangedOrShared(t *testing.T) {
	random := rand.New(rand.NewSource(142))
	for range 5000 {
		n := 1 + random.Intn(6)
		a, x, e, c := roomy(sample.Num(n, random.Intn)), random.Intn(n), anyExpr(n, random), anyCond(n, random)
		e.Kids = append(slices.Clone(e.Kids), check.Expr{Kind: 99})[:len(e.Kids)]
		words := fmt.Sprint(a, e, c)
		var told []num.Num
		for range 2 {
			eval.Linear(e)
			eval.Eval(e, a)
			b, _ := eval.Assign(a, x, e)
			d, _ := eval.Assume(a, c)
			told = append(told, b, d)
		}
		if words != fmt.Sprint(a, e, c) || a.I[:n+1][n] != between(99, 99) || e.Kids[:len(e.Kids)+1][len(e.Kids)].Kind != 99 {
			t.Fatal("changed", words)
		}
		if !same(told[:2], told[2:]) {
			t.Fatal("not the same again", words)
		}
		kept := fmt.Sprint(told)
		spoil(a)
		if kept != fmt.Sprint(told) {
			t.Fatal("an answer has the memory of what was handed in", words)
		}
		for at, b := range told {
			others := fmt.Sprint(told[at+1:])
			spoil(b)
			if others != fmt.Sprint(told[at+1:]) {
				t.Fatal("two answers have one memory", words)
			}
		}
	}
}

// wildExpr makes what can't be, too.
func wildExpr(deep int, some func() int, random *rand.Rand) check.Expr {
	e := check.Expr{Kind: random.Intn(12) - 1, Num: some(), Var: some()}
	if random.Intn(2) == 0 {
		e.Var = random.Intn(8) - 1
	}
	if deep > 0 {
		for range random.Intn(4) {
			e.Kids = append(e.Kids, wildExpr(deep-1, some, random))
		}
	}
	return e
}

func TestP1_WhateverIsAsked(t *testing.T) {
	random := rand.New(rand.NewSource(143))
	numbers := []int{math.MinInt, math.MinInt + 1, -1 << 41, least - 1, least, -2, -1, 0, 1, 2, 6, 7, 9, most, most + 1, 1 << 40, 1 << 41, math.MaxInt}
	some := func() int { return numbers[random.Intn(len(numbers))] }
	wild := func() num.Num {
		a := num.Num{None: random.Intn(9) == 0, I: make([]itv.Itv, random.Intn(12))}
		for x := range a.I {
			a.I[x] = between(some(), some())
		}
		a.Z.N, a.Z.None = some(), random.Intn(9) == 0
		if random.Intn(2) == 0 {
			a.Z.N = len(a.I)
		}
		for i := range 49 {
			a.Z.D[i/7][i%7] = some()
		}
		return a
	}
	for range 20000 {
		e, c := wildExpr(3, some, random), check.Cond{Op: some(), L: wildExpr(2, some, random), R: wildExpr(2, some, random)}
		for _, a := range []num.Num{wild(), sample.Num(random.Intn(7), random.Intn)} {
			eval.Linear(e)
			eval.Eval(e, a)
			eval.Assign(a, some(), e)
			eval.Assume(a, c)
			eval.Assign(a, some(), anyExpr(6, random))
			eval.Assume(a, anyCond(6, random))
		}
	}
}
