package eval

import (
	"jetsam/ast"
	"jetsam/check"
	"jetsam/zone"
)

// nought stands for a variable where there is none.
const nought = -1

// Linear tells of an expression that is a variable's number, or nought, and so
// much more, which variable, and how much.
func Linear(e check.Expr) (int, int, bool) {
	switch {
	case e.Kind == ast.Num:
		return amount(nought, e.Num)
	case e.Kind == ast.Var:
		return e.Var, 0, true
	case (e.Kind == ast.Add || e.Kind == ast.Sub) && len(e.Kids) == 2:
		return combined(e.Kind, e.Kids[0], e.Kids[1])
	}
	return 0, 0, false
}

func combined(kind int, left, right check.Expr) (int, int, bool) {
	x, more, leftOK := Linear(left)
	y, by, rightOK := Linear(right)
	switch {
	case !leftOK || !rightOK:
		return 0, 0, false
	case kind == ast.Sub && y == nought:
		return amount(x, more-by)
	case kind == ast.Add && y == nought:
		return amount(x, more+by)
	case kind == ast.Add && x == nought:
		return amount(y, more+by)
	}
	return 0, 0, false
}

// amount: what is more than a zone has bounds for is nothing.
func amount(x, by int) (int, int, bool) {
	if by < -zone.Far || by > zone.Far {
		return 0, 0, false
	}
	return x, by, true
}
