package sample

import "jetsam/check"

// Expr makes an expression that is check.Right, of so many variables, by what
// pick chooses.
func Expr(vars int, pick func(n int) int) check.Expr {
	m := maker{pick: pick, vars: vars}
	return m.expr(maxDeep)
}

// Cond makes a comparison that is check.Right, of so many variables, by what
// pick chooses.
func Cond(vars int, pick func(n int) int) check.Cond {
	m := maker{pick: pick, vars: vars}
	return m.cond()
}
