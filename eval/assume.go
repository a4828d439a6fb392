package eval

import (
	"slices"

	"jetsam/ast"
	"jetsam/check"
	"jetsam/itv"
	"jetsam/num"
)

// Assume tells what variables may be where a comparison holds, and which errors
// there may be.
func Assume(a num.Num, c check.Cond) (num.Num, itv.Errs) {
	if a.None {
		return num.None(len(a.I)), itv.Errs{}
	}
	left, right, errs := both(c.L, c.R, a.I)
	left, right = itv.Test(c.Op, left, right)
	if itv.Empty(left) || itv.Empty(right) {
		return num.None(len(a.I)), errs
	}
	return held(a, c, left, right), errs
}

// held tells those numbers of which the comparison's parts are of these two.
func held(a num.Num, c check.Cond, left, right itv.Itv) num.Num {
	a.I = slices.Clone(a.I)
	x, more, leftOK := Linear(c.L)
	y, by, rightOK := Linear(c.R)
	// Of nought, which isn't a variable, Meet leaves all as it is.
	if leftOK {
		a = num.Meet(a, x, less(left, more))
	}
	if rightOK {
		a = num.Meet(a, y, less(right, by))
	}
	if leftOK && rightOK && x != y {
		a = bounded(a, c.Op, x, y, by-more)
	}
	return a
}

// less tells all numbers of an Itv, each so much less.
func less(i itv.Itv, by int) itv.Itv {
	return itv.Itv{Lo: i.Lo - by, Hi: i.Hi - by}
}

// bounded tells those where x compares so with y and by more.
func bounded(a num.Num, op, x, y, by int) num.Num {
	switch op {
	case ast.Eq:
		return num.Bound(num.Bound(a, x, y, by), y, x, -by)
	case ast.Lt:
		return num.Bound(a, x, y, by-1)
	case ast.Le:
		return num.Bound(a, x, y, by)
	case ast.Gt:
		return num.Bound(a, y, x, -by-1)
	case ast.Ge:
		return num.Bound(a, y, x, -by)
	}
	return a
}
