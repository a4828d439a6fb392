package sample

import (
	"math/rand"
	"testing"

	"jetsam/num"
	"jetsam/zone"
)

func TestZonesAndNumsAreRight(t *testing.T) {
	random := rand.New(rand.NewSource(4))
	none := 0
	for range 5000 {
		n := random.Intn(7)
		z, a := Zone(n, random.Intn), Num(n, random.Intn)
		if !zone.Right(z) || z.N != n || !num.Right(a) || len(a.I) != n {
			t.Fatal(z, a)
		}
		if z.None {
			none++
		}
	}
	if none < 100 {
		t.Error("too few without numbers:", none)
	}
}

func TestHullHasItsRows(t *testing.T) {
	random := rand.New(rand.NewSource(5))
	for range 2000 {
		n := random.Intn(7)
		rows := Rows(n, random.Intn)
		z := Hull(n, rows)
		for _, row := range rows {
			if len(row) != n || !zone.Has(z, row) || !num.Has(NumOf(z), row) {
				t.Fatal(rows, row)
			}
		}
	}
	if z := Hull(2, nil); z != (zone.Zone{N: 2, None: true}) {
		t.Error(z)
	}
	want := zone.Zone{N: 2, D: [7][7]int{{0, -1, -5}, {3, 0, -3}, {6, 4, 0}}}
	if z := Hull(2, [][]int{{1, 5}, {3, 6}}); z != want {
		t.Error(z)
	}
}

func TestSameChoicesSameRows(t *testing.T) {
	for _, pick := range []func(int) int{func(n int) int { return 0 }, func(n int) int { return n - 1 }, func(n int) int { return 2 % n }} {
		for n := range 7 {
			if Zone(n, pick) != Zone(n, pick) || !num.Right(Num(n, pick)) {
				t.Error(n)
			}
		}
	}
}
