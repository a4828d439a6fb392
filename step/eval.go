package step

import (
	"jetsam/api"
	"jetsam/ast"
	"jetsam/check"
)

// Eval tells an expression's number, or an error's kind.
func Eval(e check.Expr, vars []int) (int, int) {
	switch e.Kind {
	case ast.Num:
		return cut(int64(e.Num))
	case ast.Var:
		if e.Var >= 0 && e.Var < len(vars) {
			return cut(int64(vars[e.Var]))
		}
	case ast.Neg:
		if len(e.Kids) == 1 {
			return negated(e.Kids[0], vars)
		}
	case ast.Add, ast.Sub, ast.Mul, ast.Div, ast.Mod:
		if len(e.Kids) == 2 {
			return reckoned(e.Kind, e.Kids[0], e.Kids[1], vars)
		}
	}
	return 0, 0
}

// cut tells a number of 64 bits, if it is one of 32.
func cut(n int64) (int, int) {
	if int64(int32(n)) != n {
		return 0, api.Overflow
	}
	return int(n), 0
}

func negated(kid check.Expr, vars []int) (int, int) {
	n, fault := Eval(kid, vars)
	if fault != 0 {
		return 0, fault
	}
	return cut(-int64(n))
}

func reckoned(kind int, left, right check.Expr, vars []int) (int, int) {
	l, r, fault := both(left, right, vars)
	if fault != 0 {
		return 0, fault
	}
	// What is made of two numbers of 32 bits is one of 64.
	a, b := int64(l), int64(r)
	switch kind {
	case ast.Add:
		return cut(a + b)
	case ast.Sub:
		return cut(a - b)
	case ast.Mul:
		return cut(a * b)
	}
	if b == 0 {
		return 0, api.DivZero
	}
	if kind == ast.Div {
		return cut(a / b)
	}
	return cut(a % b)
}

// both reckons two expressions, the left one ahead.
func both(left, right check.Expr, vars []int) (int, int, int) {
	l, fault := Eval(left, vars)
	if fault != 0 {
		return 0, 0, fault
	}
	r, fault := Eval(right, vars)
	if fault != 0 {
		return 0, 0, fault
	}
	return l, r, 0
}

// Holds tells whether a comparison holds, or an error's kind.
func Holds(c check.Cond, vars []int) (bool, int) {
	l, r, fault := both(c.L, c.R, vars)
	if fault != 0 {
		return false, fault
	}
	switch c.Op {
	case ast.Eq:
		return l == r, 0
	case ast.Ne:
		return l != r, 0
	case ast.Lt:
		return l < r, 0
	case ast.Le:
		return l <= r, 0
	case ast.Gt:
		return l > r, 0
	case ast.Ge:
		return l >= r, 0
	}
	return false, 0
}
