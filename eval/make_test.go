package eval_test

import (
	"fmt"
	"math/rand"
	"testing"

	"jetsam/api"
	"jetsam/ast"
	"jetsam/check"
	"jetsam/itv"
	"jetsam/num"
	"jetsam/sample"
	"jetsam/step"
)

const least, most = -2147483648, 2147483647

var (
	empty = itv.Itv{Lo: 1, Hi: 0}
	fine  = itv.Errs{}
	over  = itv.Errs{Overflow: true}
	zero  = itv.Errs{DivZero: true}
	all   = itv.Errs{Overflow: true, DivZero: true}
)

// read tells what is in a statement of variables a, b and c, which are at places 0 to 2.
func read(t *testing.T, statement string) (check.Expr, check.Cond) {
	t.Helper()
	text := "proc p { var a ; var b ; var c ; " + statement + " }"
	s, err := sample.Text(text)
	if err != api.OK {
		t.Fatalf("%q: %d", text, err)
	}
	return s.Graphs[0].Edges[0].E, s.Graphs[0].Edges[0].C
}

func expr(t *testing.T, text string) check.Expr {
	t.Helper()
	e, _ := read(t, "a = "+text+" ;")
	return e
}

func comparison(t *testing.T, text string) check.Cond {
	t.Helper()
	_, c := read(t, "assert ( "+text+" ) ;")
	return c
}

func number(n int) check.Expr { return check.Expr{Kind: ast.Num, Num: n} }

func variable(x int) check.Expr { return check.Expr{Kind: ast.Var, Var: x} }

func of(kind int, kids ...check.Expr) check.Expr { return check.Expr{Kind: kind, Kids: kids} }

func between(lo, hi int) itv.Itv { return itv.Itv{Lo: lo, Hi: hi} }

// box tells the numbers of which each is of its Itv.
func box(list ...itv.Itv) num.Num {
	a := num.Top(len(list))
	for x, i := range list {
		a = num.Meet(a, x, i)
	}
	return a
}

// hull tells the least Num that has all these rows.
func hull(n int, rows ...[]int) num.Num { return sample.NumOf(sample.Hull(n, rows)) }

func none(n int) num.Num { return sample.NumOf(sample.Hull(n, nil)) }

// same: nil and empty lists are one, and so they are printed.
func same(a, b any) bool { return fmt.Sprint(a) == fmt.Sprint(b) }

// errsOf tells what Errs must be of the kind of an error.
func errsOf(fault int) itv.Errs {
	return itv.Errs{Overflow: fault == api.Overflow, DivZero: fault == api.DivZero}
}

// has: are all of these errors among those?
func has(errs, some itv.Errs) bool {
	return (errs.Overflow || !some.Overflow) && (errs.DivZero || !some.DivZero)
}

// sums makes an expression of sums and differences alone.
func sums(vars, deep int, random *rand.Rand) check.Expr {
	switch kind := random.Intn(5); {
	case deep > 0 && kind < 2:
		return of(ast.Add+kind, sums(vars, deep-1, random), sums(vars, deep-1, random))
	case kind == 2 && vars > 0:
		return variable(random.Intn(vars))
	}
	return number(max(sample.Number(random.Intn), 0))
}

// anyExpr makes one of any kind, often one of sums alone.
func anyExpr(vars int, random *rand.Rand) check.Expr {
	if random.Intn(2) == 0 {
		return sums(vars, random.Intn(4), random)
	}
	return sample.Expr(vars, random.Intn)
}

func anyCond(vars int, random *rand.Rand) check.Cond {
	if random.Intn(3) == 0 {
		return sample.Cond(vars, random.Intn)
	}
	return check.Cond{Op: ast.Eq + random.Intn(6), L: sums(vars, random.Intn(3), random), R: sums(vars, random.Intn(3), random)}
}

// with is a row with another number for x's.
func with(row []int, x, n int) []int {
	row = append([]int{}, row...)
	row[x] = n
	return row
}

// stepped tells the number of an expression, or an error's kind, by layer 7.
func stepped(e check.Expr, row []int) (int, int) { return step.Eval(e, row) }
