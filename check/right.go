package check

import (
	"jetsam/api"
	"jetsam/ast"
)

// The calls of this file tell whether a part may come of a system without an
// error. What a kind doesn't have must be nothing, for Check tells it so.

func chanRight(c Chan, procs int) bool {
	return c.Kind >= api.Block && c.Kind <= api.Lossy &&
		c.Size >= 1 && c.Size <= api.MaxSize &&
		isPlace(c.From, procs) && isPlace(c.To, procs) && c.From != c.To &&
		c.Tags >= 1 && c.Tags <= api.MaxTags && ruleRight(c)
}

// ruleRight: the last state of a rule with moves is one that a move names.
func ruleRight(c Chan) bool {
	if len(c.Rule) > api.MaxStates {
		return false
	}
	greatest := 0
	for from, row := range c.Rule {
		if len(row) != c.Tags {
			return false
		}
		for _, to := range row {
			switch {
			case isPlace(to, len(c.Rule)):
				greatest = max(greatest, from, to)
			case to != -1:
				return false
			}
		}
	}
	return len(c.Rule) == 0 || greatest == len(c.Rule)-1
}

// scope is what the statements of a process may name.
type scope struct {
	chans []Chan
	proc  int
	vars  int
}

func (in scope) bodyRight(list []Stmt) bool {
	for _, st := range list {
		if !in.stmtRight(st) {
			return false
		}
	}
	return true
}

// stmtRight looks at what the kind has, and asks of the rest that it is nothing.
func (in scope) stmtRight(st Stmt) bool {
	rest := st
	rest.Kind = 0
	switch st.Kind {
	case ast.Assign:
		rest.Var, rest.E = 0, Expr{}
		return in.varRight(st.Var) && in.exprRight(st.E) && isNothing(rest)
	case ast.If:
		rest.C, rest.Body, rest.Else = Cond{}, nil, nil
		return in.condRight(st.C) && in.bodyRight(st.Body) && in.bodyRight(st.Else) && isNothing(rest)
	case ast.While:
		rest.C, rest.Body = Cond{}, nil
		return in.condRight(st.C) && in.bodyRight(st.Body) && isNothing(rest)
	case ast.Send:
		rest.Chan, rest.Tag, rest.E = 0, 0, Expr{}
		return in.sendRight(st) && in.exprRight(st.E) && isNothing(rest)
	case ast.Recv:
		rest.Chan, rest.Arms = 0, nil
		return in.recvRight(st) && isNothing(rest)
	case ast.Assert:
		rest.C = Cond{}
		return in.condRight(st.C) && isNothing(rest)
	case ast.Input:
		rest.Var = 0
		return in.varRight(st.Var) && isNothing(rest)
	}
	return false
}

func (in scope) sendRight(st Stmt) bool {
	return isPlace(st.Chan, len(in.chans)) && in.chans[st.Chan].From == in.proc &&
		isPlace(st.Tag, in.chans[st.Chan].Tags)
}

func (in scope) recvRight(st Stmt) bool {
	if !isPlace(st.Chan, len(in.chans)) || in.chans[st.Chan].To != in.proc || len(st.Arms) == 0 {
		return false
	}
	for i, arm := range st.Arms {
		if !isPlace(arm.Tag, in.chans[st.Chan].Tags) || tagUsed(st.Arms[:i], arm.Tag) ||
			!in.varRight(arm.Var) || !in.bodyRight(arm.Body) {
			return false
		}
	}
	return true
}

func (in scope) condRight(c Cond) bool {
	return c.Op >= ast.Eq && c.Op <= ast.Ge && in.exprRight(c.L) && in.exprRight(c.R)
}

func (in scope) exprRight(e Expr) bool {
	switch e.Kind {
	case ast.Num:
		return e.Num >= 0 && e.Num <= api.MaxInt && e.Var == 0 && len(e.Kids) == 0
	case ast.Var:
		return in.varRight(e.Var) && e.Num == 0 && len(e.Kids) == 0
	case ast.Neg:
		return len(e.Kids) == 1 && in.kidsRight(e)
	case ast.Add, ast.Sub, ast.Mul, ast.Div, ast.Mod:
		return len(e.Kids) == 2 && in.kidsRight(e)
	}
	return false
}

func (in scope) kidsRight(e Expr) bool {
	for _, kid := range e.Kids {
		if !in.exprRight(kid) {
			return false
		}
	}
	return e.Num == 0 && e.Var == 0
}

func (in scope) varRight(at int) bool {
	return isPlace(at, in.vars)
}

// isPlace: of so many.
func isPlace(at, count int) bool {
	return at >= 0 && at < count
}

func isNothing(st Stmt) bool {
	return st.Kind == 0 && st.Var == 0 && st.Chan == 0 && st.Tag == 0 &&
		exprNothing(st.E) && st.C.Op == 0 && exprNothing(st.C.L) && exprNothing(st.C.R) &&
		len(st.Body) == 0 && len(st.Else) == 0 && len(st.Arms) == 0
}

func exprNothing(e Expr) bool {
	return e.Kind == 0 && e.Num == 0 && e.Var == 0 && len(e.Kids) == 0
}
