package num_test

import (
	"math"
	"math/rand"
	"slices"
	"testing"

	"jetsam/itv"
	"jetsam/num"
	"jetsam/sample"
	"jetsam/zone"
)

const least, most = -2147483648, 2147483647

// same: nil and empty lists are one.
func same(a, b num.Num) bool {
	return a.None == b.None && a.Z == b.Z && slices.Equal(a.I, b.I)
}

func none(n int) num.Num { return sample.NumOf(sample.Hull(n, nil)) }

// hull is the Num of the least zone that has these rows.
func hull(n int, rows ...[]int) num.Num { return sample.NumOf(sample.Hull(n, rows)) }

func want(t *testing.T, what string, got, want num.Num, of ...any) {
	t.Helper()
	if !same(got, want) {
		t.Fatalf("%s of %v: %v, want %v", what, of, got, want)
	}
	if !num.Right(got) {
		t.Fatalf("%s of %v: not Right: %v", what, of, got)
	}
}

// beyond are places of variables that Nums of n variables don't have.
func beyond(n int) []int {
	list := []int{math.MinInt, math.MinInt + 1, least, -2, n, n + 1, most, math.MaxInt - 1, math.MaxInt}
	for x := n; x < 9; x++ {
		list = append(list, x)
	}
	return list
}

// ranges are Itvs of all kinds: empty ones, small ones, and those that have
// numbers that no variable may have.
func ranges() []itv.Itv {
	var list []itv.Itv
	ends := []int{math.MinInt, math.MinInt + 1, least - 1, least, least + 1, -3, 0, 2, most - 1, most, most + 1, 1 << 33, math.MaxInt}
	for _, lo := range ends {
		for _, hi := range ends {
			list = append(list, itv.Itv{Lo: lo, Hi: hi})
		}
	}
	return list
}

func with(row []int, x, n int) []int {
	row = slices.Clone(row)
	row[x] = n
	return row
}

func TestP10_1_Plain(t *testing.T) {
	for n := range 7 {
		want(t, "Top", num.Top(n), sample.NumOf(zone.Top(n)), n)
		want(t, "Zeros", num.Zeros(n), hull(n, make([]int, n)), n)
		want(t, "None", num.None(n), none(n), n)
		for x := range n {
			if num.Top(n).I[x] != itv.All() || num.Zeros(n).I[x] != itv.Const(0) || num.None(n).I[x] != itv.None() {
				t.Error(n, x)
			}
		}
	}
	for n, m := range map[int]int{-1: 0, math.MinInt: 0, 7: 6, math.MaxInt: 6, 1 << 40: 6} {
		want(t, "Top", num.Top(n), num.Top(m), n)
		want(t, "Zeros", num.Zeros(n), num.Zeros(m), n)
		want(t, "None", num.None(n), num.None(m), n)
	}
}

func TestP10_1_Example(t *testing.T) {
	a := num.Meet(num.Set(num.Zeros(1), 0, itv.Itv{Lo: 2, Hi: 5}), 0, itv.Itv{Lo: 4, Hi: 9})
	want(t, "Meet", a, hull(1, []int{4}, []int{5}))
}

func TestP10_1_Has(t *testing.T) {
	random := rand.New(rand.NewSource(101))
	for range 3000 {
		n := random.Intn(7)
		z := sample.Zone(n, random.Intn)
		a := sample.NumOf(z)
		for _, row := range sample.Rows(n, random.Intn) {
			if num.Has(a, row) != zone.Has(z, row) {
				t.Fatal(a, row)
			}
		}
		for many := range 9 {
			row := make([]int, many)
			if num.Has(num.Zeros(n), row) != (many == n) || num.Has(num.Top(n), row) != (many == n) || num.Has(none(n), row) {
				t.Fatal(n, many)
			}
		}
		for x := range n {
			for _, number := range []int{least - 1, most + 1, math.MinInt, math.MaxInt} {
				if num.Has(num.Top(n), with(make([]int, n), x, number)) {
					t.Fatal(n, x, number)
				}
			}
		}
	}
}

func TestP10_1_WithinJoinWiden(t *testing.T) {
	random := rand.New(rand.NewSource(102))
	told := map[bool]int{}
	for range 5000 {
		n := random.Intn(7)
		some, more := sample.Rows(n, random.Intn), sample.Rows(n, random.Intn)
		a, b := hull(n, some...), hull(n, more...)
		both := hull(n, append(slices.Clone(some), more...)...)
		want(t, "Join", num.Join(a, b), both, a, b)
		want(t, "Join", num.Join(a, none(n)), a, a)
		want(t, "Join", num.Join(none(n), a), a, a)
		want(t, "Widen", num.Widen(a, b), sample.NumOf(zone.Widen(a.Z, b.Z)), a, b)
		want(t, "Widen", num.Widen(a, none(n)), a, a)
		want(t, "Widen", num.Widen(none(n), a), a, a)
		if !num.Within(a, both) || !num.Within(b, both) || !num.Within(none(n), a) || num.Within(a, none(n)) || !num.Within(none(n), none(n)) {
			t.Fatal("Within", a, b)
		}
		if num.Within(a, b) != same(both, b) {
			t.Fatal("Within", a, b)
		}
		told[num.Within(a, b)]++
	}
	if told[true] < 300 || told[false] < 300 {
		t.Error("too few of one kind:", told)
	}
	want(t, "Join", num.Join(none(2), none(2)), none(2))
	want(t, "Widen", num.Widen(none(2), none(2)), none(2))
}

// Set: the numbers of the others go with each one of the Itv.
func TestP10_1_Set(t *testing.T) {
	random := rand.New(rand.NewSource(103))
	for range 500 {
		n := 1 + random.Intn(6)
		rows := sample.Rows(n, random.Intn)
		x := random.Intn(n)
		for _, i := range ranges() {
			lo, hi := max(i.Lo, least), min(i.Hi, most)
			var behind [][]int
			for _, row := range rows {
				if lo <= hi {
					behind = append(behind, with(row, x, lo), with(row, x, hi))
				}
			}
			want(t, "Set", num.Set(hull(n, rows...), x, i), hull(n, behind...), rows, x, i)
			want(t, "Set", num.Set(none(n), x, i), none(n), n, x, i)
		}
	}
}

func TestP10_1_Meet(t *testing.T) {
	random := rand.New(rand.NewSource(104))
	told := map[bool]int{}
	for range 500 {
		n := 1 + random.Intn(6)
		a := hull(n, sample.Rows(n, random.Intn)...)
		x := random.Intn(n)
		list := append(ranges(), a.I[x], itv.Itv{Lo: a.I[x].Lo, Hi: a.I[x].Lo}, itv.Itv{Lo: a.I[x].Lo + 1, Hi: a.I[x].Hi}, itv.Itv{Lo: a.I[x].Lo, Hi: a.I[x].Hi - 1})
		for _, i := range list {
			lo, hi := max(i.Lo, least), min(i.Hi, most)
			z := zone.Bound(zone.Bound(a.Z, x, -1, hi), -1, x, -lo)
			if lo > hi {
				z = none(n).Z
			}
			want(t, "Meet", num.Meet(a, x, i), sample.NumOf(z), a, x, i)
			want(t, "Meet", num.Meet(none(n), x, i), none(n), n, x, i)
			told[z.None]++
		}
	}
	if told[true] < 1000 || told[false] < 1000 {
		t.Error("too few of one kind:", told)
	}
}

// Of what Meet leaves, all rows are there, and no others.
func TestP10_1_MeetOfRows(t *testing.T) {
	a := hull(2, []int{0, 0}, []int{3, 4}, []int{5, 5})
	b := num.Meet(a, 1, itv.Itv{Lo: 2, Hi: 4})
	for x := -1; x < 7; x++ {
		for y := -1; y < 7; y++ {
			row := []int{x, y}
			if num.Has(b, row) != (num.Has(a, row) && y >= 2 && y <= 4) {
				t.Error(row)
			}
		}
	}
}

func TestP10_1_CopyAndBound(t *testing.T) {
	random := rand.New(rand.NewSource(105))
	amounts := []int{math.MinInt, -zone.Far, least - 1, least, -3, -1, 0, 1, 3, most, most + 1, zone.Far, math.MaxInt}
	for range 2000 {
		n := random.Intn(7)
		a := sample.Num(n, random.Intn)
		for _, by := range amounts {
			x, y := random.Intn(n+1)-1, random.Intn(n+1)-1
			want(t, "Copy", num.Copy(a, x, y, by), sample.NumOf(zone.Copy(a.Z, x, y, by)), a, x, y, by)
			want(t, "Bound", num.Bound(a, x, y, by), sample.NumOf(zone.Bound(a.Z, x, y, by)), a, x, y, by)
		}
	}
	a := num.Zeros(2)
	want(t, "Copy", num.Copy(a, 0, 1, 3), hull(2, []int{3, 0}))
	want(t, "Copy", num.Copy(a, 1, -1, -4), hull(2, []int{0, -4}))
	want(t, "Copy", num.Copy(a, 1, -1, most+1), none(2))
	want(t, "Bound", num.Bound(a, 0, 1, -1), none(2))
	want(t, "Bound", num.Bound(num.Top(1), 0, -1, 7), hull(1, []int{least}, []int{7}))
	want(t, "Bound", num.Bound(num.Top(1), -1, 0, 7), hull(1, []int{-7}, []int{most}))
}

// With variables that there aren't, or another count, the first Num is told as it is.
func TestP10_1_WhatThereIsnt(t *testing.T) {
	random := rand.New(rand.NewSource(106))
	for range 300 {
		n, m := random.Intn(7), random.Intn(7)
		a, b := sample.Num(n, random.Intn), sample.Num(m, random.Intn)
		if n != m {
			want(t, "Join", num.Join(a, b), a, a, b)
			want(t, "Widen", num.Widen(a, b), a, a, b)
			if num.Within(a, b) {
				t.Fatal("Within", a, b)
			}
		}
		for _, x := range beyond(n) {
			for y := -1; y < n; y++ {
				want(t, "Copy", num.Copy(a, x, y, 1), a, x, y)
				want(t, "Copy", num.Copy(a, y, x, 1), a, y, x)
				want(t, "Bound", num.Bound(a, x, y, -1), a, x, y)
				want(t, "Bound", num.Bound(a, y, x, -1), a, y, x)
			}
		}
		for _, x := range append(beyond(n), -1) {
			for _, i := range []itv.Itv{itv.None(), itv.All(), itv.Const(1), {Lo: 9, Hi: -9}} {
				want(t, "Set", num.Set(a, x, i), a, x, i)
				want(t, "Meet", num.Meet(a, x, i), a, x, i)
			}
			want(t, "Copy", num.Copy(a, -1, x, 1), a, x)
		}
	}
}

func TestP10_2_WhatHasNumbersIsntNone(t *testing.T) {
	random := rand.New(rand.NewSource(107))
	told := map[bool]int{}
	for range 3000 {
		n := 1 + random.Intn(6)
		a, b := sample.Num(n, random.Intn), sample.Num(n, random.Intn)
		x, y, by := random.Intn(n), random.Intn(n), sample.Number(random.Intn)
		i := itv.Itv{Lo: sample.Number(random.Intn), Hi: sample.Number(random.Intn)}
		for _, c := range []num.Num{num.Join(a, b), num.Widen(a, b), num.Set(a, x, i), num.Copy(a, x, y, by), num.Meet(a, x, i), num.Bound(a, x, y, by)} {
			var row []int
			for _, i := range c.I {
				row = append(row, i.Lo)
			}
			if !num.Right(c) || c.None == num.Has(c, row) {
				t.Fatal(a, b, c, row)
			}
			told[c.None]++
		}
	}
	if told[true] < 1000 || told[false] < 1000 {
		t.Error("too few of one kind:", told)
	}
}
