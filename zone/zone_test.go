package zone_test

import (
	"math"
	"math/rand"
	"slices"
	"testing"

	"jetsam/itv"
	"jetsam/sample"
	"jetsam/zone"
)

func TestP9_1_TopAndZeros(t *testing.T) {
	for n := range 7 {
		var all [][]int
		for x := range n {
			for y := range n {
				all = append(all, with(with(make([]int, n), x, most), y, least), with(with(make([]int, n), x, least), y, most))
			}
		}
		want(t, "Top", zone.Top(n), sample.Hull(n, append(all, make([]int, n))), n)
		want(t, "Zeros", zone.Zeros(n), zone.Zone{N: n}, n)
	}
	for _, n := range []int{-1, -7, math.MinInt} {
		want(t, "Top", zone.Top(n), zone.Zone{}, n)
		want(t, "Zeros", zone.Zeros(n), zone.Zone{}, n)
	}
	for _, n := range []int{7, 8, 1 << 40, math.MaxInt} {
		want(t, "Top", zone.Top(n), zone.Top(6), n)
		want(t, "Zeros", zone.Zeros(n), zone.Zone{N: 6}, n)
	}
	if zone.Far != 1<<40 {
		t.Error("Far", zone.Far)
	}
	if d := zone.Top(2).D; d != [7][7]int{{0, 2147483648, 2147483648}, {2147483647, 0, 4294967295}, {2147483647, 4294967295, 0}} {
		t.Error(d)
	}
}

func TestP9_1_Has(t *testing.T) {
	random := rand.New(rand.NewSource(91))
	had, not := 0, 0
	for range 3000 {
		n := random.Intn(7)
		z := little(n, random)
		for _, row := range rows(z) {
			if !zone.Has(z, row) {
				t.Fatal(z, row)
			}
			had++
			for x := range row {
				other := with(row, x, row[x]+random.Intn(5)-2)
				if zone.Has(z, other) != fits(z, other) {
					t.Fatal(z, other)
				}
				if !fits(z, other) {
					not++
				}
			}
		}
	}
	if had < 1000 || not < 1000 {
		t.Error("too few of one kind:", had, not)
	}
}

func TestP9_1_HasOfWrongRows(t *testing.T) {
	for n := range 7 {
		for many := range 9 {
			if zone.Has(zone.Zeros(n), make([]int, many)) != (n == many) || zone.Has(zone.Top(n), make([]int, many)) != (n == many) {
				t.Error(n, many)
			}
			if zone.Has(none(n), make([]int, many)) {
				t.Error("none", n, many)
			}
		}
		for x := range n {
			for _, number := range []int{least, most, least + 1, most - 1, 0, least - 1, most + 1, math.MinInt, math.MaxInt, 1 << 40} {
				fit := number >= least && number <= most
				if zone.Has(zone.Top(n), with(make([]int, n), x, number)) != fit {
					t.Error("Top", n, x, number)
				}
			}
		}
	}
	if !zone.Has(zone.Zeros(0), nil) || !zone.Has(zone.Zeros(0), []int{}) {
		t.Error("of no variables there is one row")
	}
}

func TestP9_1_WithinJoinWiden(t *testing.T) {
	random := rand.New(rand.NewSource(92))
	told := map[bool]int{}
	for range 12000 {
		n := random.Intn(7)
		a := little(n, random)
		b := little(n, random)
		if random.Intn(2) == 0 {
			b = part(a, random)
		}
		if random.Intn(2) == 0 {
			a, b = b, a
		}
		inside := len(those(rows(a), func(row []int) bool { return b.None || !fits(b, row) })) == 0
		if zone.Within(a, b) != inside {
			t.Fatal("Within", a, b)
		}
		told[inside]++
		want(t, "Join", zone.Join(a, b), sample.Hull(n, append(rows(a), rows(b)...)), a, b)
		want(t, "Widen", zone.Widen(a, b), widened(a, b), a, b)
	}
	if told[true] < 1000 || told[false] < 1000 {
		t.Error("too few of one kind:", told)
	}
}

// part has some of the rows of a little zone.
func part(z zone.Zone, random *rand.Rand) zone.Zone {
	return sample.Hull(z.N, those(rows(z), func([]int) bool { return random.Intn(3) == 0 }))
}

// widened is the chapter's Widen, by the corners of what it tells.
func widened(a, b zone.Zone) zone.Zone {
	if len(those(rows(b), func(row []int) bool { return a.None || !fits(a, row) })) == 0 {
		return a
	}
	if a.None {
		return b
	}
	corners := [][]int{nil}
	for x := range a.N {
		lo, hi := -a.D[0][x+1], a.D[x+1][0]
		if -b.D[0][x+1] < lo {
			lo = least
		}
		if b.D[x+1][0] > hi {
			hi = most
		}
		var longer [][]int
		for _, row := range corners {
			longer = append(longer, append(slices.Clone(row), lo), append(slices.Clone(row), hi))
		}
		corners = longer
	}
	return sample.Hull(a.N, corners)
}

// Also of zones that are wide, a Join has both, and no other zone that has both is less.
func TestP9_1_JoinOfWideOnes(t *testing.T) {
	random := rand.New(rand.NewSource(93))
	for range 5000 {
		n := random.Intn(7)
		some, more := sample.Rows(n, random.Intn), sample.Rows(n, random.Intn)
		a, b := sample.Hull(n, some), sample.Hull(n, more)
		want(t, "Join", zone.Join(a, b), sample.Hull(n, append(slices.Clone(some), more...)), a, b)
		wide := zone.Widen(a, b)
		if !zone.Right(wide) || !zone.Within(a, wide) || !zone.Within(b, wide) {
			t.Fatal(a, b, wide)
		}
	}
}

func TestP9_1_Itv(t *testing.T) {
	random := rand.New(rand.NewSource(94))
	for range 3000 {
		n := random.Intn(7)
		list := sample.Rows(n, random.Intn)
		z := sample.Hull(n, list)
		for x := range n {
			lo, hi := most, least
			for _, row := range list {
				lo, hi = min(lo, row[x]), max(hi, row[x])
			}
			if i := zone.Itv(z, x); i != (itv.Itv{Lo: lo, Hi: hi}) {
				t.Fatal(z, x, i)
			}
			if i := zone.Itv(none(n), x); i != itv.None() {
				t.Fatal("none", n, x, i)
			}
			if i := zone.Itv(zone.Top(n), x); i != itv.All() {
				t.Fatal("Top", n, x, i)
			}
		}
		for _, x := range append(beyond(n), -1) {
			if i := zone.Itv(z, x); i != itv.None() {
				t.Fatal(z, x, i)
			}
		}
	}
}

// Of another count of variables the first zone is told as it is.
func TestP9_1_OtherCounts(t *testing.T) {
	random := rand.New(rand.NewSource(95))
	for range 3000 {
		n, m := random.Intn(7), random.Intn(7)
		a, b := sample.Zone(n, random.Intn), sample.Zone(m, random.Intn)
		if n == m {
			continue
		}
		if zone.Within(a, b) {
			t.Fatal("Within", a, b)
		}
		want(t, "Join", zone.Join(a, b), a, a, b)
		want(t, "Widen", zone.Widen(a, b), a, a, b)
	}
}

func TestP9_2_WhatHasNumbersHasNoNone(t *testing.T) {
	random := rand.New(rand.NewSource(96))
	for range 5000 {
		n := random.Intn(7)
		a, b := sample.Zone(n, random.Intn), sample.Zone(n, random.Intn)
		for _, z := range []zone.Zone{a, b, zone.Join(a, b), zone.Widen(a, b), zone.Bound(a, random.Intn(n+1)-1, random.Intn(n+1)-1, sample.Number(random.Intn))} {
			if !zone.Right(z) {
				t.Fatal(a, b, z)
			}
			row := lowest(z)
			if z.None == zone.Has(z, row) {
				t.Fatal(z, row)
			}
		}
	}
}

// lowest tells the least number of each, which a zone has, if it has any.
func lowest(z zone.Zone) []int {
	var row []int
	for x := range z.N {
		row = append(row, -z.D[0][x+1])
	}
	return row
}

func TestP9_3_WidenedAtMostFourteenTimes(t *testing.T) {
	random := rand.New(rand.NewSource(97))
	longest := 0
	for range 2000 {
		n := random.Intn(7)
		rows := sample.Rows(n, random.Intn)
		now, others := sample.Hull(n, rows), 0
		for range 60 {
			row := slices.Clone(rows[0])
			for x := range row {
				if random.Intn(3) == 0 {
					row[x] = min(max(row[x]+random.Intn(9)-4, least), most)
				}
			}
			next := zone.Widen(now, sample.Hull(n, [][]int{row}))
			if next != now {
				others++
			}
			now = next
		}
		longest = max(longest, others)
	}
	if longest > 14 || longest < 8 {
		t.Error(longest, "others")
	}
}

// One bound at a time is given up, behind those between variables.
func TestP9_3_TheLongestChain(t *testing.T) {
	now, others := zone.Zeros(6), 0
	list := []zone.Zone{}
	for x := range 6 {
		list = append(list, zone.Copy(zone.Zeros(6), x, -1, 1), zone.Copy(zone.Zeros(6), x, -1, -1))
	}
	for _, z := range append(list, zone.Top(6), list[0]) {
		next := zone.Widen(now, z)
		if next != now {
			others++
		}
		now = next
	}
	if others != 12 || now != zone.Top(6) {
		t.Error(others, now)
	}
}
