package zone_test

import (
	"math"
	"math/rand"
	"testing"

	"jetsam/sample"
	"jetsam/zone"
)

func TestP9_1_Right(t *testing.T) {
	for n := -2; n < 10; n++ {
		right := n >= 0 && n <= 6
		if zone.Right(zone.Zone{N: n}) != right || zone.Right(zone.Zone{N: n, None: true}) != right {
			t.Error(n)
		}
	}
	for _, n := range []int{math.MinInt, math.MaxInt, 1 << 32} {
		if zone.Right(zone.Zone{N: n}) || zone.Right(zone.Zone{N: n, None: true}) {
			t.Error(n)
		}
	}
	for n := range 7 {
		for i := range 7 {
			for j := range 7 {
				z := none(n)
				z.D[i][j] = 1
				if zone.Right(z) {
					t.Error("none with a bound", z)
				}
			}
		}
	}
}

// A zone is Right just if its bounds are those that its rows tell.
func TestP9_1_RightIsWhatItsRowsTell(t *testing.T) {
	random := rand.New(rand.NewSource(291))
	told := map[bool]int{}
	for i := range 40000 {
		n := 1 + random.Intn(3)
		z := zone.Zone{N: n}
		if i%2 == 0 {
			for from := range n + 1 {
				for to := range n + 1 {
					if from != to {
						z.D[from][to] = random.Intn(6) - 2
					}
				}
			}
		} else {
			z = little(n, random)
		}
		if random.Intn(2) == 0 {
			z.D[random.Intn(n+1)][random.Intn(n+1)] += 1 - 2*random.Intn(2)
		}
		right := z == none(n) || !z.None && len(rows(z)) > 0 && sample.Hull(n, rows(z)) == z
		if zone.Right(z) != right {
			t.Fatal(z, "is", !right)
		}
		told[right]++
	}
	if told[true] < 3000 || told[false] < 3000 {
		t.Error("too few of one kind:", told)
	}
}

// Any other bound makes it another zone's, or none's.
func TestP9_1_RightOfOtherBounds(t *testing.T) {
	random := rand.New(rand.NewSource(292))
	for range 2000 {
		n := random.Intn(7)
		z := sample.Zone(n, random.Intn)
		i, j := random.Intn(7), random.Intn(7)
		kept := z.D[i][j]
		for _, by := range wild() {
			z.D[i][j] = by
			if (i > n || j > n || i == j || z.None) && by != 0 && zone.Right(z) {
				t.Fatal(z, i, j)
			}
			if (by >= zone.Far || by <= -zone.Far) && zone.Right(z) {
				t.Fatal(z, i, j)
			}
		}
		z.D[i][j] = kept
		if !zone.Right(z) {
			t.Fatal(z)
		}
	}
}

func TestP9_1_RightAtTheEnds(t *testing.T) {
	for _, x := range []struct {
		hi, lo int
		want   bool
	}{
		{most, -least, true}, {most + 1, -least, false}, {most, -least + 1, false}, {most, -most, true}, {most + 1, -most - 1, false},
		{least, -least, true}, {least - 1, -least + 1, false}, {0, 0, true}, {0, -1, false}, {-1, 0, false}, {-1, 1, true},
		{math.MaxInt, math.MaxInt, false}, {math.MinInt, math.MinInt, false}, {math.MinInt, math.MaxInt, false}, {zone.Far, zone.Far, false},
	} {
		z := zone.Zone{N: 1, D: [7][7]int{{0, x.lo}, {x.hi, 0}}}
		if zone.Right(z) != x.want {
			t.Error(x.hi, x.lo)
		}
	}
	// Sums that are too great for an int must not come round to what fits.
	z := zone.Top(3)
	z.D[1][2], z.D[2][1] = math.MinInt, math.MinInt
	if zone.Right(z) {
		t.Error(z)
	}
}

func TestP1_WhateverIsAsked(t *testing.T) {
	random := rand.New(rand.NewSource(293))
	one := func() int { return wild()[random.Intn(len(wild()))] }
	for range 20000 {
		a, b := wildZone(random), wildZone(random)
		zone.Top(a.N)
		zone.Zeros(a.N)
		zone.Right(a)
		zone.Within(a, b)
		zone.Join(a, b)
		zone.Widen(a, b)
		x, y := one(), one()
		for _, z := range []zone.Zone{a, sample.Zone(random.Intn(7), random.Intn)} {
			zone.Has(z, make([]int, random.Intn(9)))
			zone.Has(z, []int{one(), one()})
			zone.Bound(z, x, y, one())
			zone.Forget(z, x)
			zone.Copy(z, x, y, one())
			zone.Copy(z, x, x, one())
			zone.Itv(z, x)
		}
	}
}

func wildZone(random *rand.Rand) zone.Zone {
	z := zone.Zone{N: random.Intn(10) - 1, None: random.Intn(9) == 0}
	if random.Intn(2) == 0 {
		z.N = wild()[random.Intn(len(wild()))]
	}
	for i := range 7 {
		for j := range 7 {
			z.D[i][j] = wild()[random.Intn(len(wild()))]
		}
	}
	return z
}
