package itv_test

import (
	"math"
	"math/rand"
	"testing"

	"jetsam/ast"
	"jetsam/itv"
	"jetsam/sample"
)

func TestP8_1_Plain(t *testing.T) {
	wantItv(t, "None", itv.None(), nothing)
	wantItv(t, "All", itv.All(), itv.Itv{Lo: least, Hi: most})
	for n, want := range map[int]itv.Itv{
		0: {}, -7: {Lo: -7, Hi: -7}, least: {Lo: least, Hi: least}, most: {Lo: most, Hi: most},
		least - 1: nothing, most + 1: nothing, math.MaxInt: nothing, math.MinInt: nothing,
	} {
		wantItv(t, "Const", itv.Const(n), want, n)
	}
	for _, x := range []struct{ lo, hi, wantLo, wantHi int }{
		{3, 5, 3, 5}, {5, 5, 5, 5}, {5, 4, 1, 0}, {0, -1, 1, 0}, {least, most, least, most},
		{least - 1, most + 1, least, most}, {math.MinInt, math.MaxInt, least, most},
		{math.MinInt, least, least, least}, {most, math.MaxInt, most, most},
		{math.MinInt, least - 1, 1, 0}, {most + 1, math.MaxInt, 1, 0}, {math.MaxInt, math.MinInt, 1, 0}, {most + 1, most + 1, 1, 0},
	} {
		wantItv(t, "Of", itv.Of(x.lo, x.hi), itv.Itv{Lo: x.wantLo, Hi: x.wantHi}, x.lo, x.hi)
	}
}

func TestP8_1_HasAndEmpty(t *testing.T) {
	for _, a := range pairs(ends()) {
		if itv.Empty(a) != (a.Lo > a.Hi) {
			t.Error("Empty", a)
		}
		for _, n := range around() {
			if itv.Has(a, n) != inside(a, n) {
				t.Error("Has", a, n)
			}
		}
	}
	for _, n := range []int{math.MinInt, least - 1, most + 1, math.MaxInt} {
		if itv.Has(itv.All(), n) {
			t.Error("All has", n)
		}
	}
}

// What two Itvs have is told by their ends, and what is right beside them.
func TestP8_1_WithinJoinMeet(t *testing.T) {
	near := around()
	for _, a := range pairs(ends()) {
		for _, b := range pairs(ends()) {
			beyond := those(near, func(n int) bool { return inside(a, n) && !inside(b, n) })
			if itv.Within(a, b) != (len(beyond) == 0) {
				t.Fatal("Within", a, b)
			}
			either := hull(those(near, func(n int) bool { return inside(a, n) || inside(b, n) }))
			wantItv(t, "Join", itv.Join(a, b), either, a, b)
			both := hull(those(near, func(n int) bool { return inside(a, n) && inside(b, n) }))
			wantItv(t, "Meet", itv.Meet(a, b), both, a, b)
		}
	}
}

func TestP8_1_Widen(t *testing.T) {
	for _, x := range [][3]itv.Itv{
		{{Lo: 2, Hi: 5}, {Lo: 3, Hi: 4}, {Lo: 2, Hi: 5}},
		{{Lo: 2, Hi: 5}, {Lo: 2, Hi: 5}, {Lo: 2, Hi: 5}},
		{{Lo: 2, Hi: 5}, {Lo: 1, Hi: 5}, {Lo: least, Hi: 5}},
		{{Lo: 2, Hi: 5}, {Lo: 2, Hi: 6}, {Lo: 2, Hi: most}},
		{{Lo: 2, Hi: 5}, {Lo: 1, Hi: 6}, {Lo: least, Hi: most}},
		{{Lo: 2, Hi: 5}, {Lo: 8, Hi: 9}, {Lo: 2, Hi: most}},
		{{Lo: 2, Hi: 5}, {Lo: -9, Hi: -8}, {Lo: least, Hi: 5}},
		{{Lo: 5, Hi: 2}, {Lo: 8, Hi: 9}, {Lo: 8, Hi: 9}},
		{{Lo: 8, Hi: 9}, {Lo: 5, Hi: 2}, {Lo: 8, Hi: 9}},
		{{Lo: 5, Hi: 2}, {Lo: 9, Hi: 8}, nothing},
		{{Lo: most, Hi: most}, {Lo: least, Hi: least}, {Lo: least, Hi: most}},
	} {
		wantItv(t, "Widen", itv.Widen(x[0], x[1]), x[2], x[0], x[1])
	}
	for _, a := range small() {
		for _, b := range small() {
			want := itv.Join(a, b)
			if a.Lo <= a.Hi && b.Lo <= b.Hi && b.Lo < a.Lo {
				want.Lo = least
			}
			if a.Lo <= a.Hi && b.Lo <= b.Hi && b.Hi > a.Hi {
				want.Hi = most
			}
			wantItv(t, "Widen", itv.Widen(a, b), want, a, b)
		}
	}
}

func TestP8_1_Narrow(t *testing.T) {
	for _, x := range [][3]itv.Itv{
		{{Lo: 2, Hi: 5}, {Lo: 3, Hi: 4}, {Lo: 2, Hi: 5}},
		{{Lo: least, Hi: 5}, {Lo: 3, Hi: 4}, {Lo: 3, Hi: 5}},
		{{Lo: 2, Hi: most}, {Lo: 3, Hi: 4}, {Lo: 2, Hi: 4}},
		{{Lo: least, Hi: most}, {Lo: 3, Hi: 4}, {Lo: 3, Hi: 4}},
		{{Lo: least, Hi: most}, {Lo: least, Hi: most}, {Lo: least, Hi: most}},
		{{Lo: least, Hi: 5}, {Lo: 6, Hi: 7}, nothing},
		{{Lo: 2, Hi: most}, {Lo: -9, Hi: 1}, nothing},
		{{Lo: least, Hi: 5}, {Lo: 5, Hi: 7}, {Lo: 5, Hi: 5}},
		{{Lo: least + 1, Hi: most - 1}, {Lo: 3, Hi: 4}, {Lo: least + 1, Hi: most - 1}},
		{{Lo: 5, Hi: 2}, {Lo: 3, Hi: 4}, nothing},
		{{Lo: 2, Hi: 5}, {Lo: 4, Hi: 3}, nothing},
		{{Lo: least, Hi: most}, {Lo: 4, Hi: 3}, nothing},
		{{Lo: most, Hi: least}, {Lo: 4, Hi: 5}, nothing},
	} {
		wantItv(t, "Narrow", itv.Narrow(x[0], x[1]), x[2], x[0], x[1])
	}
}

// Of each comparison: does it hold of a number with some of an Itv?
func holdsWithSome(op, n int, b itv.Itv) bool {
	switch op {
	case ast.Eq:
		return inside(b, n)
	case ast.Ne:
		return b.Lo != n || b.Hi != n
	case ast.Lt:
		return n < b.Hi
	case ast.Le:
		return n <= b.Hi
	case ast.Gt:
		return n > b.Lo
	}
	return n >= b.Lo
}

func TestP8_1_Test(t *testing.T) {
	back := map[int]int{ast.Eq: ast.Eq, ast.Ne: ast.Ne, ast.Lt: ast.Gt, ast.Le: ast.Ge, ast.Gt: ast.Lt, ast.Ge: ast.Le}
	list, near := append(pairs(ends()), small()...), around()
	for op, other := range back {
		for _, a := range list {
			for _, b := range list {
				l, r := itv.Test(op, a, b)
				if a.Lo > a.Hi || b.Lo > b.Hi {
					if l != nothing || r != nothing {
						t.Fatal("Test", op, a, b, l, r)
					}
					continue
				}
				wantL := hull(those(near, func(n int) bool { return inside(a, n) && holdsWithSome(op, n, b) }))
				wantR := hull(those(near, func(n int) bool { return inside(b, n) && holdsWithSome(other, n, a) }))
				if l != wantL || r != wantR {
					t.Fatal("Test", op, a, b, l, r, "want", wantL, wantR)
				}
			}
		}
	}
	for _, op := range []int{0, 7, -1, 1 << 40} {
		if l, r := itv.Test(op, itv.All(), itv.All()); l != nothing || r != nothing {
			t.Error("Test", op, l, r)
		}
	}
}

func TestP8_2_JoinAndWidenHaveAllOfBoth(t *testing.T) {
	for _, a := range pairs(ends()) {
		for _, b := range pairs(ends()) {
			for _, c := range []itv.Itv{itv.Join(a, b), itv.Widen(a, b)} {
				if c.Lo < least || c.Hi > most || a.Lo <= a.Hi && (c.Lo > a.Lo || c.Hi < a.Hi) || b.Lo <= b.Hi && (c.Lo > b.Lo || c.Hi < b.Hi) {
					t.Fatal(a, b, c)
				}
			}
		}
	}
}

func TestP8_2_WidenedAtMostThreeTimes(t *testing.T) {
	random := rand.New(rand.NewSource(82))
	told := map[int]int{}
	for range 3000 {
		others, now := 0, randomItv(random)
		for range 60 {
			next := itv.Widen(now, randomItv(random))
			if next != now && !(now.Lo > now.Hi && next.Lo > next.Hi) {
				others++
			}
			now = next
		}
		told[others]++
		if others > 3 {
			t.Fatal(others, "others")
		}
	}
	if told[2] < 10 || told[3] < 10 {
		t.Error("too few chains that are long:", told)
	}
}

// randomItv is empty at times, and small or great.
func randomItv(random *rand.Rand) itv.Itv {
	a := itv.Itv{Lo: sample.Number(random.Intn), Hi: sample.Number(random.Intn)}
	if random.Intn(4) > 0 && a.Lo > a.Hi {
		a.Lo, a.Hi = a.Hi, a.Lo
	}
	return a
}

// Of what isn't of All nothing is said, but that all calls end.
func TestP1_WhateverIsAsked(t *testing.T) {
	list := pairs(wild())
	for _, a := range list {
		itv.Empty(a)
		itv.Neg(a)
		for _, b := range list {
			itv.Within(a, b)
			itv.Join(a, b)
			itv.Meet(a, b)
			itv.Widen(a, b)
			itv.Narrow(a, b)
			for kind := -1; kind <= 9; kind++ {
				itv.Do(kind, a, b)
				itv.Test(kind, a, b)
			}
		}
	}
}
