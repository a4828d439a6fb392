package zone_test

import (
	"math"
	"math/rand"
	"testing"

	"jetsam/itv"
	"jetsam/sample"
	"jetsam/zone"
)

// amount is one that is about what a bound of the zone is.
func amount(z zone.Zone, x, y int, random *rand.Rand) int {
	switch random.Intn(8) {
	case 0:
		return wild()[random.Intn(len(wild()))]
	case 1:
		return random.Intn(9) - 4
	}
	if x < -1 || y < -1 || x >= z.N || y >= z.N {
		return 0
	}
	lo, hi := -z.D[y+1][x+1], z.D[x+1][y+1]
	return lo - 2 + random.Intn(hi-lo+5)
}

func TestP9_1_Bound(t *testing.T) {
	random := rand.New(rand.NewSource(191))
	told := map[string]int{}
	for range 20000 {
		n := random.Intn(7)
		z := little(n, random)
		x, y := random.Intn(n+1)-1, random.Intn(n+1)-1
		by := amount(z, x, y, random)
		left := those(rows(z), func(row []int) bool { return of(row, x)-of(row, y) <= by })
		got := zone.Bound(z, x, y, by)
		want(t, "Bound", got, sample.Hull(n, left), z, x, y, by)
		switch got {
		case z:
			told["as it was"]++
		case none(n):
			told["none"]++
		default:
			told["less"]++
		}
	}
	if told["as it was"] < 1000 || told["none"] < 1000 || told["less"] < 1000 {
		t.Error("too few of one kind:", told)
	}
}

func TestP9_1_BoundAtTheEnds(t *testing.T) {
	z := zone.Top(2)
	for _, x := range []struct {
		x, y, by int
		want     zone.Zone
	}{
		{0, 1, 4294967295, z}, {0, 1, math.MaxInt, z}, {0, 1, zone.Far, z}, {0, -1, most, z}, {-1, 0, -least, z},
		{0, 0, 0, z}, {0, 0, 1, z}, {0, 0, -1, none(2)}, {0, 0, math.MinInt, none(2)}, {-1, -1, 0, z}, {-1, -1, math.MaxInt, z}, {-1, -1, -1, none(2)},
		{0, 1, -4294967295, sample.Hull(2, [][]int{{least, most}})}, {0, 1, -4294967296, none(2)}, {0, 1, math.MinInt, none(2)},
		{0, -1, least, sample.Hull(2, [][]int{{least, least}, {least, most}})}, {0, -1, least - 1, none(2)},
		{-1, 1, -most, sample.Hull(2, [][]int{{least, most}, {most, most}})}, {-1, 1, -most - 1, none(2)},
	} {
		want(t, "Bound", zone.Bound(z, x.x, x.y, x.by), x.want, x.x, x.y, x.by)
		want(t, "Bound", zone.Bound(none(2), x.x, x.y, x.by), none(2), x.x, x.y, x.by)
	}
}

func TestP9_1_Forget(t *testing.T) {
	random := rand.New(rand.NewSource(192))
	for range 10000 {
		n := 1 + random.Intn(6)
		list := sample.Rows(n, random.Intn)
		if random.Intn(9) == 0 {
			list = nil
		}
		x := random.Intn(n)
		var all [][]int
		for _, row := range list {
			all = append(all, with(row, x, least), with(row, x, most))
		}
		want(t, "Forget", zone.Forget(sample.Hull(n, list), x), sample.Hull(n, all), list, x)
	}
}

func TestP9_1_Copy(t *testing.T) {
	random := rand.New(rand.NewSource(193))
	told := map[string]int{}
	for range 30000 {
		n := 1 + random.Intn(6)
		z := little(n, random)
		x, y := random.Intn(n), random.Intn(n+1)-1
		by := random.Intn(9) - 4
		switch random.Intn(6) {
		case 0:
			by = amount(z, x, y, random)
		case 1:
			by = sample.Number(random.Intn) + random.Intn(3) - 1
		}
		var all [][]int
		ahead := rows(z)
		for _, row := range ahead {
			// So much can be added to no number.
			if by < 3*least || by > 3*most {
				continue
			}
			if n := of(row, y) + by; n >= least && n <= most {
				all = append(all, with(row, x, n))
			}
		}
		want(t, "Copy", zone.Copy(z, x, y, by), sample.Hull(n, all), z, x, y, by)
		switch {
		case len(all) == 0:
			told["none"]++
		case len(all) < len(ahead):
			told["some"]++
		case x == y:
			told["itself"]++
		case y == -1:
			told["nought"]++
		default:
			told["another one"]++
		}
	}
	for _, kind := range []string{"none", "some", "itself", "nought", "another one"} {
		if told[kind] < 300 {
			t.Error("too few of", kind, told)
		}
	}
}

func TestP9_1_CopyAtTheEnds(t *testing.T) {
	if i := zone.Itv(zone.Copy(zone.Zeros(2), 0, 1, 3), 0); i != (itv.Itv{Lo: 3, Hi: 3}) {
		t.Error(i)
	}
	for _, x := range []struct {
		x, y, by int
		want     zone.Zone
	}{
		{0, -1, most, sample.Hull(1, [][]int{{most}})}, {0, -1, least, sample.Hull(1, [][]int{{least}})},
		{0, -1, most + 1, none(1)}, {0, -1, least - 1, none(1)}, {0, -1, math.MaxInt, none(1)}, {0, -1, math.MinInt, none(1)},
		{0, 0, 0, zone.Top(1)}, {0, 0, 1, sample.Hull(1, [][]int{{least + 1}, {most}})}, {0, 0, -1, sample.Hull(1, [][]int{{least}, {most - 1}})},
		{0, 0, 4294967295, sample.Hull(1, [][]int{{most}})}, {0, 0, -4294967295, sample.Hull(1, [][]int{{least}})},
		{0, 0, 4294967296, none(1)}, {0, 0, -4294967296, none(1)}, {0, 0, zone.Far, none(1)}, {0, 0, -zone.Far, none(1)},
		{0, 0, zone.Far + 1, none(1)}, {0, 0, math.MaxInt, none(1)}, {0, 0, math.MinInt, none(1)},
	} {
		want(t, "Copy", zone.Copy(zone.Top(1), x.x, x.y, x.by), x.want, x.x, x.y, x.by)
		want(t, "Copy", zone.Copy(none(1), x.x, x.y, x.by), none(1), x.x, x.y, x.by)
	}
}

// With variables that there aren't, a zone is told as it is.
func TestP9_1_VariablesThatThereArent(t *testing.T) {
	random := rand.New(rand.NewSource(194))
	for range 1000 {
		n := random.Intn(7)
		z := sample.Zone(n, random.Intn)
		for _, x := range beyond(n) {
			if x >= 0 && x < n {
				continue
			}
			for _, by := range []int{-1, 0, 1, math.MinInt, math.MaxInt} {
				for y := -1; y < n; y++ {
					want(t, "Bound", zone.Bound(z, x, y, by), z, z, x, y, by)
					want(t, "Bound", zone.Bound(z, y, x, by), z, z, y, x, by)
					want(t, "Copy", zone.Copy(z, x, y, by), z, z, x, y, by)
					want(t, "Copy", zone.Copy(z, y, x, by), z, z, y, x, by)
				}
				want(t, "Bound", zone.Bound(z, x, x, by), z, z, x, x, by)
				want(t, "Copy", zone.Copy(z, x, x, by), z, z, x, x, by)
				want(t, "Copy", zone.Copy(z, -1, x, by), z, z, -1, x, by)
			}
			want(t, "Forget", zone.Forget(z, x), z, z, x)
		}
		// Nought is no variable that could be given another number.
		for y := -1; y < n; y++ {
			want(t, "Copy", zone.Copy(z, -1, y, 1), z, z, -1, y)
		}
		want(t, "Forget", zone.Forget(z, -1), z, z, -1)
	}
}
