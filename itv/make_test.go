package itv_test

import (
	"math"
	"slices"
	"testing"

	"jetsam/itv"
)

const least, most = -2147483648, 2147483647

var nothing = itv.Itv{Lo: 1, Hi: 0}

// ends are numbers at which something may go wrong.
func ends() []int {
	return []int{least, least + 1, least + 2, -65536, -3, -2, -1, 0, 1, 2, 3, 46341, most - 2, most - 1, most}
}

// around has the ends, the small numbers, and what is right beside them.
func around() []int {
	var list []int
	for _, n := range append(ends(), -5, 5) {
		list = append(list, n-1, n, n+1)
	}
	slices.Sort(list)
	return slices.Compact(list)
}

// wild are numbers that no variable may have, too.
func wild() []int {
	return append(ends(), least-1, most+1, -1<<40, 1<<40, math.MinInt, math.MinInt+1, math.MaxInt-1, math.MaxInt)
}

// pairs tells an Itv of each number and each one.
func pairs(numbers []int) []itv.Itv {
	var list []itv.Itv
	for _, lo := range numbers {
		for _, hi := range numbers {
			list = append(list, itv.Itv{Lo: lo, Hi: hi})
		}
	}
	return list
}

// small tells all Itvs about nought, the empty one in several forms.
func small() []itv.Itv {
	list := []itv.Itv{{Lo: 1, Hi: 0}, {Lo: 5, Hi: -5}}
	for lo := -5; lo <= 5; lo++ {
		for hi := lo; hi <= 5; hi++ {
			list = append(list, itv.Itv{Lo: lo, Hi: hi})
		}
	}
	return list
}

// hull tells the least Itv that has all these numbers.
func hull(numbers []int) itv.Itv {
	if len(numbers) == 0 {
		return nothing
	}
	a := itv.Itv{Lo: numbers[0], Hi: numbers[0]}
	for _, n := range numbers {
		a.Lo, a.Hi = min(a.Lo, n), max(a.Hi, n)
	}
	return a
}

// those tells the numbers for which something is so.
func those(numbers []int, is func(n int) bool) []int {
	var list []int
	for _, n := range numbers {
		if is(n) {
			list = append(list, n)
		}
	}
	return list
}

func inside(a itv.Itv, n int) bool { return a.Lo <= n && n <= a.Hi }

func wantItv(t *testing.T, what string, got, want itv.Itv, of ...any) {
	t.Helper()
	if got != want {
		t.Errorf("%s of %v: %v, want %v", what, of, got, want)
	}
}
