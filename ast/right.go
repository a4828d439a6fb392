package ast

import (
	"jetsam/api"
	"jetsam/lex"
)

// The calls of this file tell whether a part can be: all but how deep it is
// nested, and how many words it has. They look at what a kind has only.

func systemRight(s System) bool {
	for _, c := range s.Chans {
		if !chanRight(c) {
			return false
		}
	}
	for _, r := range s.Rules {
		if !ruleRight(r) {
			return false
		}
	}
	for _, p := range s.Procs {
		if !nameRight(p.Name) || !namesRight(p.Vars) || !bodyRight(p.Body) {
			return false
		}
	}
	return true
}

func chanRight(c Chan) bool {
	return nameRight(c.Name) && c.Kind >= api.Block && c.Kind <= api.Lossy &&
		numberRight(c.Size) && nameRight(c.From) && nameRight(c.To) &&
		len(c.Tags) > 0 && namesRight(c.Tags)
}

func ruleRight(r Rule) bool {
	for _, m := range r.Moves {
		if !numberRight(m.From) || !nameRight(m.Tag) || !numberRight(m.To) {
			return false
		}
	}
	return nameRight(r.Chan)
}

func bodyRight(list []Stmt) bool {
	for _, st := range list {
		if !stmtRight(st) {
			return false
		}
	}
	return true
}

func stmtRight(st Stmt) bool {
	switch st.Kind {
	case Assign:
		return nameRight(st.Name) && exprRight(st.E)
	case If:
		return condRight(st.C) && bodyRight(st.Body) && bodyRight(st.Else)
	case While:
		return condRight(st.C) && bodyRight(st.Body)
	case Send:
		return nameRight(st.Name) && nameRight(st.Tag) && exprRight(st.E)
	case Recv:
		return nameRight(st.Name) && len(st.Arms) > 0 && armsRight(st.Arms)
	case Assert:
		return condRight(st.C)
	case Input:
		return nameRight(st.Name)
	}
	return false
}

func armsRight(arms []Arm) bool {
	for _, arm := range arms {
		if !nameRight(arm.Tag) || !nameRight(arm.Var) || !bodyRight(arm.Body) {
			return false
		}
	}
	return true
}

func condRight(c Cond) bool {
	return c.Op >= Eq && c.Op <= Ge && exprRight(c.L) && exprRight(c.R)
}

func exprRight(e Expr) bool {
	switch {
	case e.Kind == Num:
		return numberRight(e.Num)
	case e.Kind == Var:
		return nameRight(e.Name)
	case e.Kind == Neg:
		return len(e.Kids) == 1 && exprRight(e.Kids[0])
	case isBinary(e.Kind):
		return len(e.Kids) == 2 && exprRight(e.Kids[0]) && exprRight(e.Kids[1])
	}
	return false
}

func namesRight(names []string) bool {
	for _, name := range names {
		if !nameRight(name) {
			return false
		}
	}
	return true
}

// nameRight asks layer 1, so that a name here is just what is one there.
func nameRight(name string) bool {
	if len(name) > api.MaxName {
		return false
	}
	words, _, err := lex.Lex(name)
	return err == api.OK && len(words) == 1 &&
		words[0].Kind == lex.Name && words[0].Text == name
}

func numberRight(n int) bool {
	return n >= 0 && n <= api.MaxInt
}
