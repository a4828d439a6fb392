package itv_test

import (
	"math/big"
	"math/rand"
	"testing"

	"jetsam/api"
	"jetsam/ast"
	"jetsam/check"
	"jetsam/itv"
	"jetsam/step"
)

// The examples of the chapter, and what stands at the ends.
func TestP8_1_Do(t *testing.T) {
	over, zero, both := itv.Errs{Overflow: true}, itv.Errs{DivZero: true}, itv.Errs{Overflow: true, DivZero: true}
	for _, x := range []struct {
		kind       int
		a, b, want itv.Itv
		errs       itv.Errs
	}{
		{ast.Add, itv.Itv{Lo: most - 1, Hi: most}, itv.Itv{Lo: 1, Hi: 1}, itv.Itv{Lo: most, Hi: most}, over},
		{ast.Add, itv.Itv{Lo: most, Hi: most}, itv.Itv{Lo: 1, Hi: 1}, nothing, over},
		{ast.Add, itv.Itv{Lo: least, Hi: most}, itv.Itv{}, itv.Itv{Lo: least, Hi: most}, itv.Errs{}},
		{ast.Sub, itv.Itv{Lo: least, Hi: least}, itv.Itv{Lo: 0, Hi: 1}, itv.Itv{Lo: least, Hi: least}, over},
		{ast.Sub, itv.Itv{Lo: 2, Hi: 3}, itv.Itv{Lo: 1, Hi: 5}, itv.Itv{Lo: -3, Hi: 2}, itv.Errs{}},
		{ast.Mul, itv.Itv{Lo: -2, Hi: 3}, itv.Itv{Lo: -5, Hi: 7}, itv.Itv{Lo: -15, Hi: 21}, itv.Errs{}},
		{ast.Mul, itv.Itv{Lo: least, Hi: most}, itv.Itv{Lo: least, Hi: most}, itv.Itv{Lo: least, Hi: most}, over},
		{ast.Mul, itv.Itv{Lo: 65536, Hi: 65536}, itv.Itv{Lo: 32768, Hi: 65536}, nothing, over},
		{ast.Div, itv.Itv{Lo: 7, Hi: 9}, itv.Itv{Lo: 2, Hi: 4}, itv.Itv{Lo: 1, Hi: 4}, itv.Errs{}},
		{ast.Div, itv.Itv{Lo: 7, Hi: 9}, itv.Itv{Lo: -2, Hi: 3}, itv.Itv{Lo: -9, Hi: 9}, zero},
		{ast.Div, itv.Itv{Lo: 7, Hi: 9}, itv.Itv{Lo: 0, Hi: 3}, itv.Itv{Lo: 2, Hi: 9}, zero},
		{ast.Div, itv.Itv{Lo: 7, Hi: 9}, itv.Itv{Lo: -3, Hi: 0}, itv.Itv{Lo: -9, Hi: -2}, zero},
		{ast.Div, itv.Itv{Lo: 7, Hi: 9}, itv.Itv{}, nothing, zero},
		{ast.Div, itv.Itv{Lo: least, Hi: least}, itv.Itv{Lo: -1, Hi: -1}, nothing, over},
		{ast.Div, itv.Itv{Lo: least, Hi: 5}, itv.Itv{Lo: -1, Hi: 0}, itv.Itv{Lo: -5, Hi: most}, both},
		{ast.Div, itv.Itv{Lo: least, Hi: most}, itv.Itv{Lo: least, Hi: most}, itv.Itv{Lo: least, Hi: most}, both},
		{ast.Mod, itv.Itv{Lo: -7, Hi: -7}, itv.Itv{Lo: 3, Hi: 3}, itv.Itv{Lo: -1, Hi: -1}, itv.Errs{}},
		{ast.Mod, itv.Itv{Lo: least, Hi: least}, itv.Itv{Lo: -1, Hi: -1}, itv.Itv{}, itv.Errs{}},
		{ast.Mod, itv.Itv{Lo: 7, Hi: 7}, itv.Itv{}, nothing, zero},
		{ast.Mod, itv.Itv{Lo: 7, Hi: 9}, itv.Itv{}, nothing, zero},
		{ast.Mod, itv.Itv{Lo: 7, Hi: 9}, itv.Itv{Lo: 3, Hi: 3}, itv.Itv{Lo: 0, Hi: 2}, itv.Errs{}},
		{ast.Mod, itv.Itv{Lo: 7, Hi: 7}, itv.Itv{Lo: 3, Hi: 4}, itv.Itv{Lo: 0, Hi: 3}, itv.Errs{}},
		{ast.Mod, itv.Itv{Lo: 7, Hi: 7}, itv.Itv{Lo: 0, Hi: 1}, itv.Itv{}, zero},
		{ast.Mod, itv.Itv{Lo: -2, Hi: 1}, itv.Itv{Lo: -9, Hi: 4}, itv.Itv{Lo: -2, Hi: 1}, zero},
		{ast.Mod, itv.Itv{Lo: -20, Hi: -10}, itv.Itv{Lo: -9, Hi: -4}, itv.Itv{Lo: -8, Hi: 0}, itv.Errs{}},
		{ast.Mod, itv.Itv{Lo: least, Hi: most}, itv.Itv{Lo: least, Hi: most}, itv.Itv{Lo: -most, Hi: most}, zero},
	} {
		got, errs := itv.Do(x.kind, x.a, x.b)
		if got != x.want || errs != x.errs {
			t.Error(x.kind, x.a, x.b, got, errs, "want", x.want, x.errs)
		}
	}
}

func TestP8_1_DoOfNothing(t *testing.T) {
	for kind := -1; kind <= 10; kind++ {
		for _, a := range []itv.Itv{nothing, {Lo: 5, Hi: -5}, {Lo: most, Hi: least}} {
			wantNothing(t, kind, a, itv.Itv{})
			wantNothing(t, kind, itv.All(), a)
			wantNothing(t, kind, a, a)
		}
	}
	for _, kind := range []int{0, -1, ast.Num, ast.Var, ast.Neg, 9, 1 << 40} {
		wantNothing(t, kind, itv.All(), itv.All())
		wantNothing(t, kind, itv.Const(1), itv.Const(0))
	}
	if a, errs := itv.Neg(itv.Itv{Lo: 3, Hi: 2}); a != nothing || errs != (itv.Errs{}) {
		t.Error("Neg", a, errs)
	}
}

func wantNothing(t *testing.T, kind int, a, b itv.Itv) {
	t.Helper()
	if got, errs := itv.Do(kind, a, b); got != nothing || errs != (itv.Errs{}) {
		t.Error(kind, a, b, got, errs)
	}
}

// made is what a kind makes of two numbers, of any size.
func made(kind int, x, y *big.Int) *big.Int {
	switch kind {
	case ast.Add:
		return new(big.Int).Add(x, y)
	case ast.Sub:
		return new(big.Int).Sub(x, y)
	case ast.Mul:
		return new(big.Int).Mul(x, y)
	}
	return new(big.Int).Quo(x, y)
}

// cornersInWords: what is made of the ends, as far as All has it.
func cornersInWords(kind int, a, b itv.Itv) (itv.Itv, bool) {
	if b.Lo > b.Hi {
		return nothing, false
	}
	var all []*big.Int
	for _, x := range []int{a.Lo, a.Hi} {
		for _, y := range []int{b.Lo, b.Hi} {
			all = append(all, made(kind, big.NewInt(int64(x)), big.NewInt(int64(y))))
		}
	}
	lo, hi := all[0], all[0]
	for _, n := range all {
		if n.Cmp(lo) < 0 {
			lo = n
		}
		if n.Cmp(hi) > 0 {
			hi = n
		}
	}
	first, last := big.NewInt(least), big.NewInt(most)
	over := lo.Cmp(first) < 0 || hi.Cmp(last) > 0
	if lo.Cmp(last) > 0 || hi.Cmp(first) < 0 {
		return nothing, over
	}
	return itv.Itv{Lo: max(int(lo.Int64()), least), Hi: min(int(hi.Int64()), most)}, over
}

// doInWords is the chapter's Do, of two that aren't empty.
func doInWords(kind int, a, b itv.Itv) (itv.Itv, itv.Errs) {
	if kind < ast.Div {
		all, over := cornersInWords(kind, a, b)
		return all, itv.Errs{Overflow: over}
	}
	zero := b.Lo <= 0 && b.Hi >= 0
	if kind == ast.Div {
		under, wrong := cornersInWords(kind, a, itv.Itv{Lo: b.Lo, Hi: min(b.Hi, -1)})
		above, alsoWrong := cornersInWords(kind, a, itv.Itv{Lo: max(b.Lo, 1), Hi: b.Hi})
		return itv.Join(under, above), itv.Errs{Overflow: wrong || alsoWrong, DivZero: zero}
	}
	switch {
	case b.Lo == 0 && b.Hi == 0:
		return nothing, itv.Errs{DivZero: true}
	case a.Lo == a.Hi && b.Lo == b.Hi:
		n := a.Lo % b.Lo
		return itv.Itv{Lo: n, Hi: n}, itv.Errs{}
	}
	far := max(b.Lo, -b.Lo, b.Hi, -b.Hi) - 1
	return itv.Itv{Lo: max(-far, min(a.Lo, 0)), Hi: min(far, max(a.Hi, 0))}, itv.Errs{DivZero: zero}
}

func TestP8_1_DoInWords(t *testing.T) {
	var list []itv.Itv
	for _, a := range append(pairs(ends()), small()...) {
		if a.Lo <= a.Hi {
			list = append(list, a)
		}
	}
	for kind := ast.Add; kind <= ast.Mod; kind++ {
		for _, a := range list {
			for _, b := range list {
				got, errs := itv.Do(kind, a, b)
				if want, wantErrs := doInWords(kind, a, b); got != want || errs != wantErrs {
					t.Fatal(kind, a, b, got, errs, "want", want, wantErrs)
				}
			}
		}
	}
	for _, a := range list {
		got, errs := itv.Neg(a)
		if want, wantErrs := doInWords(ast.Sub, itv.Itv{}, a); got != want || errs != wantErrs {
			t.Fatal("Neg", a, got, errs, "want", want, wantErrs)
		}
	}
}

// Of small Itvs, all of what comes of their numbers is told, and but for Mod nothing beyond.
func TestP8_1_DoOfAllNumbers(t *testing.T) {
	for kind := ast.Add; kind <= ast.Mod; kind++ {
		for _, a := range small() {
			for _, b := range small() {
				var all []int
				var want itv.Errs
				for x := a.Lo; x <= a.Hi; x++ {
					for y := b.Lo; y <= b.Hi; y++ {
						n, fault := stepped(kind, x, y)
						if fault == 0 {
							all = append(all, n)
						}
						want.DivZero = want.DivZero || fault == api.DivZero
						want.Overflow = want.Overflow || fault == api.Overflow
					}
				}
				got, errs := itv.Do(kind, a, b)
				exact := kind != ast.Mod || a.Lo >= a.Hi && b.Lo >= b.Hi
				if errs != want || exact && got != hull(all) || !itv.Within(hull(all), got) {
					t.Fatal(kind, a, b, got, errs, "want", hull(all), want)
				}
			}
		}
	}
}

func stepped(kind, x, y int) (int, int) {
	kids := []check.Expr{{Kind: ast.Var}, {Kind: ast.Var, Var: 1}}
	return step.Eval(check.Expr{Kind: kind, Kids: kids}, []int{x, y})
}

// Whatever a run makes of numbers of both is told, and each of its errors.
func TestP8_1_DoHasWhatStepsMake(t *testing.T) {
	random := rand.New(rand.NewSource(81))
	kinds := map[int]int{}
	for range 200000 {
		a, b := randomItv(random), randomItv(random)
		if a.Lo > a.Hi || b.Lo > b.Hi {
			continue
		}
		kind := ast.Add + random.Intn(5)
		n, fault := stepped(kind, within(a, random), within(b, random))
		got, errs := itv.Do(kind, a, b)
		if fault == 0 && !inside(got, n) || fault == api.Overflow && !errs.Overflow || fault == api.DivZero && !errs.DivZero {
			t.Fatal(kind, a, b, got, errs, "but", n, fault)
		}
		kinds[fault]++
	}
	if kinds[0] < 10000 || kinds[api.Overflow] < 1000 || kinds[api.DivZero] < 100 {
		t.Error("too few of one kind:", kinds)
	}
}

// within is a number of an Itv, often one of its ends.
func within(a itv.Itv, random *rand.Rand) int {
	switch random.Intn(3) {
	case 0:
		return a.Lo
	case 1:
		return a.Hi
	}
	return a.Lo + random.Intn(a.Hi-a.Lo+1)
}
