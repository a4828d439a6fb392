package parse

import (
	"jetsam/api"
	"jetsam/ast"
	"jetsam/lex"
)

func (r *reader) cond() ast.Cond {
	r.expect("(")
	c := ast.Cond{L: r.sum(0), Op: r.compare(), R: r.sum(0)}
	r.expect(")")
	return c
}

func (r *reader) compare() int {
	op := compareOp(r.peek().Text)
	if op == 0 {
		r.fail(api.ErrForm)
		return 0
	}
	r.next++
	return op
}

// sum: a whole expression, in so many - of factors and ( ) of the one that it
// is a part of.
func (r *reader) sum(deep int) ast.Expr {
	return r.chain(r.product, sumKind, deep)
}

func (r *reader) product(deep int) ast.Expr {
	return r.chain(r.factor, productKind, deep)
}

// chain puts parts together from the left, by the signs between them that
// make a kind.
func (r *reader) chain(part func(int) ast.Expr, kindOf func(string) int, deep int) ast.Expr {
	e := part(deep)
	for {
		kind := kindOf(r.peek().Text)
		if kind == 0 {
			return e
		}
		r.next++
		e = ast.Expr{Kind: kind, Kids: []ast.Expr{e, part(deep)}}
	}
}

func (r *reader) factor(deep int) ast.Expr {
	switch word := r.peek(); {
	case word.Kind == lex.Number:
		return ast.Expr{Kind: ast.Num, Num: r.number()}
	case word.Text == "-":
		r.nest("-", deep)
		return ast.Expr{Kind: ast.Neg, Kids: []ast.Expr{r.factor(deep + 1)}}
	case word.Text == "(":
		r.nest("(", deep)
		e := r.sum(deep + 1)
		r.expect(")")
		return e
	}
	return ast.Expr{Kind: ast.Var, Name: r.name()}
}

func sumKind(sign string) int {
	switch sign {
	case "+":
		return ast.Add
	case "-":
		return ast.Sub
	}
	return 0
}

func productKind(sign string) int {
	switch sign {
	case "*":
		return ast.Mul
	case "/":
		return ast.Div
	case "%":
		return ast.Mod
	}
	return 0
}

func compareOp(sign string) int {
	switch sign {
	case "==":
		return ast.Eq
	case "!=":
		return ast.Ne
	case "<":
		return ast.Lt
	case "<=":
		return ast.Le
	case ">":
		return ast.Gt
	case ">=":
		return ast.Ge
	}
	return 0
}
