package sample

import (
	"slices"
	"strconv"

	"jetsam/ast"
	"jetsam/check"
)

// Names for places. Those of one kind of thing are others' too, in another
// order, so that a name looked for among the wrong ones tells a wrong place.
const letters = "gfedcba"

func nameOf(turn, at int) string {
	if at < 0 || at > 6 {
		return "other" + strconv.Itoa(min(max(at, 7), 999))
	}
	return letters[(at+turn)%7:][:1]
}

func chanName(at int) string { return nameOf(1, at) }
func procName(at int) string { return nameOf(2, at) }

func tagName(c, at int) string { return nameOf(3+c&3, at) }

func varName(p, at int) string { return nameOf(5+p&3, at) }

// Named gives names to all of a system's places. Of one that Check can't tell,
// it makes a system that Check tells otherwise, or not at all.
func Named(p check.Prog) ast.System {
	var s ast.System
	for i, c := range p.Chans {
		out := ast.Chan{Name: chanName(i), Kind: c.Kind, Size: c.Size, From: procName(c.From), To: procName(c.To)}
		for tag := range min(max(c.Tags, 0), 9) {
			out.Tags = append(out.Tags, tagName(i, tag))
		}
		s.Chans = append(s.Chans, out)
		if len(c.Rule) > 0 {
			s.Rules = append(s.Rules, namedRule(i, c.Rule))
		}
	}
	// The order of rules doesn't matter.
	slices.Reverse(s.Rules)
	for i, proc := range p.Procs {
		out := ast.Proc{Name: procName(i), Body: namedBody(i, proc.Body)}
		for at := range min(max(proc.Vars, 0), 9) {
			out.Vars = append(out.Vars, varName(i, at))
		}
		s.Procs = append(s.Procs, out)
	}
	return s
}

func namedRule(c int, rows [][]int) ast.Rule {
	r := ast.Rule{Chan: chanName(c)}
	for from := len(rows) - 1; from >= 0; from-- {
		for tag, to := range rows[from] {
			if to >= 0 {
				r.Moves = append(r.Moves, ast.Move{From: from, Tag: tagName(c, tag), To: to})
			}
		}
	}
	return r
}

func namedBody(p int, list []check.Stmt) []ast.Stmt {
	var out []ast.Stmt
	for _, st := range list {
		to := ast.Stmt{Kind: st.Kind, Name: varName(p, st.Var), E: namedExpr(p, st.E), C: namedCond(p, st.C)}
		if st.Kind == ast.Send || st.Kind == ast.Recv {
			to.Name, to.Tag = chanName(st.Chan), tagName(st.Chan, st.Tag)
		}
		to.Body, to.Else = namedBody(p, st.Body), namedBody(p, st.Else)
		for _, arm := range st.Arms {
			to.Arms = append(to.Arms, ast.Arm{Tag: tagName(st.Chan, arm.Tag), Var: varName(p, arm.Var), Body: namedBody(p, arm.Body)})
		}
		out = append(out, to)
	}
	return out
}

func namedCond(p int, c check.Cond) ast.Cond {
	return ast.Cond{Op: c.Op, L: namedExpr(p, c.L), R: namedExpr(p, c.R)}
}

func namedExpr(p int, e check.Expr) ast.Expr {
	out := ast.Expr{Kind: e.Kind, Num: e.Num, Name: varName(p, e.Var)}
	for _, kid := range e.Kids {
		out.Kids = append(out.Kids, namedExpr(p, kid))
	}
	return out
}
