package num_test

import (
	"fmt"
	"math"
	"math/rand"
	"slices"
	"testing"

	"jetsam/itv"
	"jetsam/num"
	"jetsam/sample"
	"jetsam/zone"
)

func TestP10_1_Right(t *testing.T) {
	for what, x := range map[string]struct {
		right bool
		put   func(a *num.Num)
	}{
		"nothing":           {true, func(a *num.Num) {}},
		"no variables":      {true, func(a *num.Num) { *a = num.Num{} }},
		"an empty list":     {true, func(a *num.Num) { *a = num.Num{I: []itv.Itv{}} }},
		"said to be none":   {false, func(a *num.Num) { a.None = true }},
		"zone is none":      {false, func(a *num.Num) { a.Z = none(2).Z }},
		"both none":         {false, func(a *num.Num) { a.None, a.Z = true, none(2).Z }},
		"all none":          {true, func(a *num.Num) { *a = none(2) }},
		"none not so said":  {false, func(a *num.Num) { *a = none(2); a.None = false }},
		"another empty Itv": {false, func(a *num.Num) { *a = none(2); a.I[1] = itv.Itv{Lo: 5, Hi: 4} }},
		"an Itv in none":    {false, func(a *num.Num) { *a = none(2); a.I[0] = itv.Const(0) }},
		"none with bounds":  {false, func(a *num.Num) { *a = none(2); a.Z.D[1][0] = 1 }},
		"greater Itv":       {false, func(a *num.Num) { a.I[0].Hi++ }},
		"less of an Itv":    {false, func(a *num.Num) { a.I[1].Lo++ }},
		"fewer Itvs":        {false, func(a *num.Num) { a.I = a.I[:1] }},
		"no Itvs":           {false, func(a *num.Num) { a.I = nil }},
		"more Itvs":         {false, func(a *num.Num) { a.I = append(a.I, itv.None()) }},
		"fewer in the zone": {false, func(a *num.Num) { a.Z = zone.Zeros(1) }},
		"a zone's bound":    {false, func(a *num.Num) { a.Z.D[1][2] = 99 }},
		"not of the zone":   {false, func(a *num.Num) { a.Z.D[3][3] = 1 }},
		"very many":         {false, func(a *num.Num) { *a = num.Num{I: make([]itv.Itv, 99), Z: zone.Zone{N: 99}} }},
		"seven":             {false, func(a *num.Num) { *a = num.Num{I: make([]itv.Itv, 7), Z: zone.Zone{N: 7}} }},
		"fewer than none":   {false, func(a *num.Num) { *a = num.Num{Z: zone.Zone{N: -1}} }},
		"none, of too many": {false, func(a *num.Num) { *a = num.Num{None: true, Z: zone.Zone{N: 7, None: true}} }},
	} {
		a := hull(2, []int{0, 3}, []int{4, 4})
		x.put(&a)
		if num.Right(a) != x.right {
			t.Error(what, a)
		}
	}
}

// Of any zone that is Right, just its own Itvs make a Num.
func TestP10_1_RightIsWhatTheZoneTells(t *testing.T) {
	random := rand.New(rand.NewSource(108))
	for range 3000 {
		n := 1 + random.Intn(6)
		a := sample.Num(n, random.Intn)
		if !num.Right(a) {
			t.Fatal(a)
		}
		x := random.Intn(n)
		if kept := a.I[x]; random.Intn(2) == 0 {
			a.I[x].Lo += random.Intn(3) - 1
			if num.Right(a) != (a.I[x] == kept) {
				t.Fatal(a)
			}
			continue
		}
		i, j := random.Intn(n+1), random.Intn(n+1)
		a.Z.D[i][j] += 1
		if i == j && num.Right(a) || (i == 0) != (j == 0) && num.Right(a) {
			t.Fatal(a)
		}
	}
}

// calls tells what all calls make of two Nums.
func calls(a, b num.Num, x, y, by int, i itv.Itv) []num.Num {
	return []num.Num{num.Join(a, b), num.Widen(a, b), num.Set(a, x, i), num.Copy(a, x, y, by), num.Meet(a, x, i), num.Bound(a, x, y, by)}
}

// roomy has spare room behind its list, with something in it.
func roomy(a num.Num) num.Num {
	a.I = append(slices.Clone(a.I), itv.Itv{Lo: 99, Hi: 99})[:len(a.I)]
	return a
}

func TestP10_3_NothingIsChangedOrShared(t *testing.T) {
	random := rand.New(rand.NewSource(109))
	for range 3000 {
		n := random.Intn(7)
		m := n
		if random.Intn(4) == 0 {
			m = random.Intn(7)
		}
		a, b := roomy(sample.Num(n, random.Intn)), roomy(sample.Num(m, random.Intn))
		x, y, by := random.Intn(9)-1, random.Intn(9)-1, sample.Number(random.Intn)
		i := itv.Itv{Lo: sample.Number(random.Intn), Hi: sample.Number(random.Intn)}
		row, words := make([]int, n, n+1), fmt.Sprint(a, b)
		told := append(calls(a, b, x, y, by, i), num.Top(n), num.Zeros(n), num.None(n))
		num.Has(a, row)
		num.Within(a, b)
		num.Right(a)
		kept := fmt.Sprint(told)
		for _, l := range [][]itv.Itv{a.I, b.I} {
			if l[:len(l)+1][len(l)] != (itv.Itv{Lo: 99, Hi: 99}) {
				t.Fatal("spare room was changed")
			}
		}
		if words != fmt.Sprint(a, b) {
			t.Fatal("changed", words)
		}
		spoil(a)
		spoil(b)
		if kept != fmt.Sprint(told) {
			t.Fatal("an answer has the memory of what was handed in", words)
		}
		for at, c := range told {
			others := fmt.Sprint(told[at+1:])
			spoil(c)
			if others != fmt.Sprint(told[at+1:]) {
				t.Fatal("two answers have one memory", words)
			}
		}
	}
}

// spoil writes over all of a list, its spare room, too.
func spoil(a num.Num) {
	all := a.I[:cap(a.I)]
	for at := range all {
		all[at] = itv.Itv{Lo: 77, Hi: -77}
	}
}

func TestP1_WhateverIsAsked(t *testing.T) {
	random := rand.New(rand.NewSource(110))
	numbers := []int{math.MinInt, math.MinInt + 1, -1 << 41, least - 1, least, -2, -1, 0, 1, 2, 6, 7, 9, most, most + 1, 1 << 41, math.MaxInt}
	one := func() int { return numbers[random.Intn(len(numbers))] }
	wild := func() num.Num {
		a := num.Num{None: random.Intn(9) == 0, I: make([]itv.Itv, random.Intn(12))}
		a.Z.N, a.Z.None = one(), random.Intn(9) == 0
		if random.Intn(2) == 0 {
			a.Z.N = len(a.I)
		}
		for i := range 49 {
			a.Z.D[i/7][i%7] = one()
		}
		return a
	}
	for range 20000 {
		a, b := wild(), wild()
		for _, c := range []num.Num{wild(), sample.Num(random.Intn(7), random.Intn)} {
			calls(a, c, one(), one(), one(), itv.Itv{Lo: one(), Hi: one()})
			calls(c, b, one(), one(), one(), itv.Itv{Lo: one(), Hi: one()})
		}
		num.Has(a, make([]int, random.Intn(12)))
		num.Has(b, []int{one(), one(), one()})
		num.Within(a, b)
		num.Right(a)
		num.Top(one())
		num.Zeros(one())
		num.None(one())
	}
}
