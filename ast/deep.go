package ast

import "jetsam/api"

// The calls of this file tell whether more than api.MaxDeep stand in each
// other, of parts that can be. What is counted is what the words show: a
// bracket that the words don't need isn't there.

func systemDeep(s System) bool {
	for _, p := range s.Procs {
		if bodyDeep(p.Body, 0) {
			return true
		}
	}
	return false
}

// bodyDeep: of statements in so many blocks.
func bodyDeep(list []Stmt, blocks int) bool {
	for _, st := range list {
		if stmtDeep(st, blocks) {
			return true
		}
	}
	return false
}

func stmtDeep(st Stmt, blocks int) bool {
	switch st.Kind {
	case Assign, Send:
		return exprDeep(st.E, 0)
	case Assert:
		return condDeep(st.C)
	case If:
		return condDeep(st.C) || blockDeep(st.Body, blocks) || bodyDeep(st.Else, blocks+1)
	case While:
		return condDeep(st.C) || blockDeep(st.Body, blocks)
	case Recv:
		for _, arm := range st.Arms {
			if blockDeep(arm.Body, blocks) {
				return true
			}
		}
	}
	return false
}

// blockDeep: of a block that stands in so many others; an empty one counts, too.
func blockDeep(body []Stmt, blocks int) bool {
	return blocks >= api.MaxDeep || bodyDeep(body, blocks+1)
}

func condDeep(c Cond) bool {
	return exprDeep(c.L, 0) || exprDeep(c.R, 0)
}

// exprDeep: of an expression in so many Negs and brackets of the same one.
func exprDeep(e Expr, deep int) bool {
	switch {
	case deep > api.MaxDeep:
		return true
	case e.Kind == Neg:
		return kidDeep(e, 0, deep+1)
	case isBinary(e.Kind):
		return kidDeep(e, 0, deep) || kidDeep(e, 1, deep)
	}
	return false
}

func kidDeep(e Expr, i, deep int) bool {
	if bracketed(e, i) {
		deep++
	}
	return exprDeep(e.Kids[i], deep)
}
