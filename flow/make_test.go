package flow_test

import (
	"fmt"
	"slices"
	"strconv"
	"strings"
	"testing"

	"jetsam/api"
	"jetsam/ast"
	"jetsam/check"
	"jetsam/flow"
	"jetsam/parse"
)

func num(n int) check.Expr { return check.Expr{Kind: ast.Num, Num: n} }

func variable(at int) check.Expr { return check.Expr{Kind: ast.Var, Var: at} }

func op(kind int, kids ...check.Expr) check.Expr { return check.Expr{Kind: kind, Kids: kids} }

func cond(op int, l, r check.Expr) check.Cond { return check.Cond{Op: op, L: l, R: r} }

// program reads a text that must be a system's without an error.
func program(t *testing.T, text string) check.Prog {
	t.Helper()
	s, at, err := parse.Parse(text)
	if err != api.OK {
		t.Fatalf("%q: %d at %d", text, err, at)
	}
	p, err := check.Check(s)
	if err != api.OK {
		t.Fatalf("%q: %d", text, err)
	}
	return p
}

func build(t *testing.T, text string) flow.Sys {
	t.Helper()
	s, err := flow.Build(program(t, text))
	if err != api.OK {
		t.Fatalf("%q: %d", text, err)
	}
	return s
}

// inputs: a process that does nothing but so many inputs.
func inputs(n int) check.Proc {
	return check.Proc{Vars: 1, Body: slices.Repeat([]check.Stmt{{Kind: ast.Input}}, n)}
}

func printed(s flow.Sys) string { return fmt.Sprint(s) }

// shown is a graph as words, a line for each edge.
func shown(g flow.Graph) string {
	lines := []string{fmt.Sprint(g.Nodes, " nodes ", g.Heads)}
	for _, e := range g.Edges {
		lines = append(lines, fmt.Sprintf("%d>%d %s", e.From, e.To, shownDeed(e)))
	}
	return strings.Join(lines, "\n")
}

func shownDeed(e flow.Edge) string {
	v := "v" + strconv.Itoa(e.Var)
	message := fmt.Sprintf("c%d.%d", e.Chan, e.Tag)
	switch e.Kind {
	case flow.Skip:
		return "skip"
	case flow.Assign:
		return v + " = " + shownExpr(e.E)
	case flow.Assume:
		return "assume " + shownCond(e.C)
	case flow.Send:
		return "send " + message + " " + shownExpr(e.E)
	case flow.Recv:
		return "recv " + message + " " + v
	case flow.Assert:
		return "assert " + shownCond(e.C)
	case flow.Input:
		return "input " + v
	}
	return "?"
}

func shownCond(c check.Cond) string {
	return shownExpr(c.L) + " " + []string{"?", "==", "!=", "<", "<=", ">", ">="}[c.Op] + " " + shownExpr(c.R)
}

func shownExpr(e check.Expr) string {
	switch e.Kind {
	case ast.Num:
		return strconv.Itoa(e.Num)
	case ast.Var:
		return "v" + strconv.Itoa(e.Var)
	case ast.Neg:
		return "-" + shownExpr(e.Kids[0])
	}
	return "(" + shownExpr(e.Kids[0]) + "+-*/%"[e.Kind-ast.Add:][:1] + shownExpr(e.Kids[1]) + ")"
}

// repeat wraps a thing so many times.
func repeat[T any](x T, times int, wrap func(T) T) T {
	for range times {
		x = wrap(x)
	}
	return x
}
