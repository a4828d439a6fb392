package flow

import (
	"slices"

	"jetsam/check"
)

// The calls of this file tell the same once more, all of its own.

func copyChan(c check.Chan) check.Chan {
	var rows [][]int
	for _, row := range c.Rule {
		rows = append(rows, slices.Clone(row))
	}
	c.Rule = rows
	return c
}

func copyCond(c check.Cond) check.Cond {
	return check.Cond{Op: c.Op, L: copyExpr(c.L), R: copyExpr(c.R)}
}

func copyExpr(e check.Expr) check.Expr {
	var kids []check.Expr
	for _, kid := range e.Kids {
		kids = append(kids, copyExpr(kid))
	}
	e.Kids = kids
	return e
}
