package zone_test

import (
	"math"
	"math/rand"
	"slices"
	"testing"

	"jetsam/sample"
	"jetsam/zone"
)

const least, most = -2147483648, 2147483647

// little makes a zone that has few rows of numbers, so that all of them can be
// gone through; some of them are at the least or the greatest number.
func little(n int, random *rand.Rand) zone.Zone {
	if random.Intn(12) == 0 {
		return none(n)
	}
	wide := []int{1, 6, 6, 5, 3, 2, 2}[n]
	base := make([]int, n)
	for x := range base {
		base[x] = []int{least, most - wide + 1, 0, -2, -1, 7}[random.Intn(6)]
	}
	var rows [][]int
	for range 1 + random.Intn(4) {
		row := slices.Clone(base)
		for x := range row {
			row[x] += random.Intn(wide)
		}
		rows = append(rows, row)
	}
	return sample.Hull(n, rows)
}

func none(n int) zone.Zone { return zone.Zone{N: n, None: true} }

// rows tells all rows of numbers that a little zone has.
func rows(z zone.Zone) [][]int {
	if z.None {
		return nil
	}
	all := [][]int{nil}
	for x := range z.N {
		var longer [][]int
		for _, row := range all {
			for n := -z.D[0][x+1]; n <= z.D[x+1][0]; n++ {
				longer = append(longer, append(slices.Clone(row), n))
			}
		}
		all = longer
	}
	return those(all, func(row []int) bool { return fits(z, row) })
}

// fits tells whether a row keeps all bounds of a zone that has some.
func fits(z zone.Zone, row []int) bool {
	v := append([]int{0}, row...)
	for i := range v {
		for j := range v {
			if v[i] < least || v[i] > most || v[i]-v[j] > z.D[i][j] {
				return false
			}
		}
	}
	return true
}

func those(all [][]int, is func(row []int) bool) [][]int {
	var list [][]int
	for _, row := range all {
		if is(row) {
			list = append(list, row)
		}
	}
	return list
}

// of tells the number of a variable, or nought.
func of(row []int, x int) int {
	if x == -1 {
		return 0
	}
	return row[x]
}

// with tells the row with another number for one variable.
func with(row []int, x, n int) []int {
	row = slices.Clone(row)
	row[x] = n
	return row
}

// wild are numbers that may be no bound, no variable and no count.
func wild() []int {
	return []int{math.MinInt, math.MinInt + 1, -1 << 41, -zone.Far - 1, -zone.Far, 2 * least, least - 1, least, -2, -1,
		0, 1, 2, 6, 7, most, most + 1, 2 * most, zone.Far - 1, zone.Far, zone.Far + 1, 1 << 41, math.MaxInt - 1, math.MaxInt}
}

// beyond are places of variables that zones of n variables don't have.
func beyond(n int) []int {
	return []int{math.MinInt, math.MinInt + 1, least, -2, n, n + 1, 6, 7, 8, most, math.MaxInt - 1, math.MaxInt}
}

func want(t *testing.T, what string, got, want zone.Zone, of ...any) {
	t.Helper()
	if got != want {
		t.Fatalf("%s of %v: %v, want %v", what, of, got, want)
	}
	if !zone.Right(got) {
		t.Fatalf("%s of %v: not Right: %v", what, of, got)
	}
}
