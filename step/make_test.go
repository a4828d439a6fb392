package step_test

import (
	"fmt"
	"math/big"
	"testing"

	"jetsam/api"
	"jetsam/ast"
	"jetsam/check"
	"jetsam/conf"
	"jetsam/flow"
	"jetsam/sample"
	"jetsam/step"
)

func system(t *testing.T, text string) flow.Sys {
	t.Helper()
	s, err := sample.Text(text)
	if err != api.OK {
		t.Fatalf("%q: %d", text, err)
	}
	return s
}

// expr reads an expression of variables a and b, which are at places 0 and 1.
func expr(t *testing.T, text string) check.Expr {
	t.Helper()
	return system(t, "proc p { var a ; var b ; a = "+text+" ; }").Graphs[0].Edges[0].E
}

// comparison reads one of variables a and b, which are at places 0 and 1.
func comparison(t *testing.T, text string) check.Cond {
	t.Helper()
	return system(t, "proc p { var a ; var b ; assert ( "+text+" ) ; }").Graphs[0].Edges[0].C
}

// same: nil and empty lists are one, and so they are printed.
func same(a, b any) bool { return fmt.Sprint(a) == fmt.Sprint(b) }

func moved() step.Done { return step.Done{Moved: true} }

func fault(kind, proc, edge int) step.Done {
	return step.Done{Kind: kind, Proc: proc, Edge: edge}
}

// inWords is layer 7's Eval, by numbers of any size.
func inWords(e check.Expr, vars []int) (*big.Int, int) {
	var kids []*big.Int
	for _, kid := range e.Kids {
		n, kind := inWords(kid, vars)
		if kind != 0 {
			return new(big.Int), kind
		}
		kids = append(kids, n)
	}
	n := new(big.Int)
	switch e.Kind {
	case ast.Num:
		n.SetInt64(int64(e.Num))
	case ast.Var:
		n.SetInt64(int64(vars[e.Var]))
	case ast.Neg:
		n.Neg(kids[0])
	case ast.Add:
		n.Add(kids[0], kids[1])
	case ast.Sub:
		n.Sub(kids[0], kids[1])
	case ast.Mul:
		n.Mul(kids[0], kids[1])
	default:
		if kids[1].Sign() == 0 {
			return n, api.DivZero
		}
		if e.Kind == ast.Div {
			n.Quo(kids[0], kids[1])
		} else {
			n.Rem(kids[0], kids[1])
		}
	}
	if n.Cmp(big.NewInt(api.MinInt)) < 0 || n.Cmp(big.NewInt(api.MaxInt)) > 0 {
		return new(big.Int), api.Overflow
	}
	return n, 0
}

// holdsInWords is layer 7's Holds.
func holdsInWords(c check.Cond, vars []int) (bool, int) {
	l, kind := inWords(c.L, vars)
	if kind != 0 {
		return false, kind
	}
	r, kind := inWords(c.R, vars)
	if kind != 0 {
		return false, kind
	}
	order := l.Cmp(r)
	switch c.Op {
	case ast.Eq:
		return order == 0, 0
	case ast.Ne:
		return order != 0, 0
	case ast.Lt:
		return order < 0, 0
	case ast.Le:
		return order <= 0, 0
	case ast.Gt:
		return order > 0, 0
	}
	return order >= 0, 0
}

// printed is what is in the first channel, and the state of its rule.
func printed(c conf.Conf) string { return fmt.Sprint(c.Queues[0], c.States[0]) }

// messages: so many, of tag 0.
func messages(n int) []conf.Msg { return make([]conf.Msg, n) }
