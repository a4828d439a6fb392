package sample

import (
	"jetsam/api"
	"jetsam/itv"
	"jetsam/num"
	"jetsam/zone"
)

// Rows makes one row of numbers at least, each of so many, by what pick
// chooses. Often the numbers of a row are near those of the first one, or near
// each other.
func Rows(n int, pick func(n int) int) [][]int {
	var rows [][]int
	for range 1 + pick(4) {
		var row []int
		for x := range n {
			number := Number(pick)
			switch kind := pick(4); {
			case kind == 1 && len(rows) > 0:
				number = rows[0][x] + pick(5) - 2
			case kind == 2 && x > 0:
				number = row[x-1] + pick(5) - 2
			}
			row = append(row, min(max(number, api.MinInt), api.MaxInt))
		}
		rows = append(rows, row)
	}
	return rows
}

// Hull tells the least zone that has all these rows, each of n numbers; one
// without numbers, if there is no row.
func Hull(n int, rows [][]int) zone.Zone {
	z := zone.Zone{N: n, None: len(rows) == 0}
	for at, row := range rows {
		var v [7]int
		copy(v[1:], row)
		for i := range n + 1 {
			for j := range n + 1 {
				if by := v[i] - v[j]; at == 0 || by > z.D[i][j] {
					z.D[i][j] = by
				}
			}
		}
	}
	return z
}

// Zone makes one that is zone.Right, of n variables, at times without numbers.
func Zone(n int, pick func(n int) int) zone.Zone {
	if pick(10) == 0 {
		return Hull(n, nil)
	}
	return Hull(n, Rows(n, pick))
}

// Num makes one that is num.Right, of n variables, at times without numbers.
func Num(n int, pick func(n int) int) num.Num {
	return NumOf(Zone(n, pick))
}

// NumOf tells the Num of a zone that is zone.Right.
func NumOf(z zone.Zone) num.Num {
	a := num.Num{None: z.None, Z: z}
	for i := 1; i <= z.N; i++ {
		if z.None {
			a.I = append(a.I, itv.Itv{Lo: 1, Hi: 0})
		} else {
			a.I = append(a.I, itv.Itv{Lo: -z.D[0][i], Hi: z.D[i][0]})
		}
	}
	return a
}
