package ast

import "slices"

// Same tells whether two systems are the same, but for what their kinds don't have.
func Same(a, b System) bool {
	return slices.EqualFunc(a.Chans, b.Chans, sameChan) &&
		slices.EqualFunc(a.Rules, b.Rules, sameRule) &&
		slices.EqualFunc(a.Procs, b.Procs, sameProc)
}

func sameChan(a, b Chan) bool {
	return a.Name == b.Name && a.Kind == b.Kind && a.Size == b.Size &&
		a.From == b.From && a.To == b.To && slices.Equal(a.Tags, b.Tags)
}

func sameRule(a, b Rule) bool {
	return a.Chan == b.Chan && slices.Equal(a.Moves, b.Moves)
}

func sameProc(a, b Proc) bool {
	return a.Name == b.Name && slices.Equal(a.Vars, b.Vars) && sameBody(a.Body, b.Body)
}

func sameBody(a, b []Stmt) bool {
	return slices.EqualFunc(a, b, sameStmt)
}

// sameStmt holds two of one kind against each other by what that kind has; a
// kind that can't be has nothing.
func sameStmt(a, b Stmt) bool {
	if a.Kind != b.Kind {
		return false
	}
	switch a.Kind {
	case Assign:
		return a.Name == b.Name && sameExpr(a.E, b.E)
	case If:
		return sameCond(a.C, b.C) && sameBody(a.Body, b.Body) && sameBody(a.Else, b.Else)
	case While:
		return sameCond(a.C, b.C) && sameBody(a.Body, b.Body)
	case Send:
		return a.Name == b.Name && a.Tag == b.Tag && sameExpr(a.E, b.E)
	case Recv:
		return a.Name == b.Name && slices.EqualFunc(a.Arms, b.Arms, sameArm)
	case Assert:
		return sameCond(a.C, b.C)
	case Input:
		return a.Name == b.Name
	}
	return true
}

func sameArm(a, b Arm) bool {
	return a.Tag == b.Tag && a.Var == b.Var && sameBody(a.Body, b.Body)
}

func sameCond(a, b Cond) bool {
	return a.Op == b.Op && sameExpr(a.L, b.L) && sameExpr(a.R, b.R)
}

func sameExpr(a, b Expr) bool {
	if a.Kind != b.Kind {
		return false
	}
	switch {
	case a.Kind == Num:
		return a.Num == b.Num
	case a.Kind == Var:
		return a.Name == b.Name
	case a.Kind == Neg, isBinary(a.Kind):
		return slices.EqualFunc(a.Kids, b.Kids, sameExpr)
	}
	return true
}
