package eval_test

import (
	"math"
	"math/rand"
	"testing"

	"jetsam/ast"
	"jetsam/check"
	"jetsam/eval"
	"jetsam/sample"
)

func wantLinear(t *testing.T, e check.Expr, x, by int, ok bool) {
	t.Helper()
	gotX, gotBy, gotOK := eval.Linear(e)
	if gotX != x || gotBy != by || gotOK != ok {
		t.Errorf("Linear: %d, %d, %v, want %d, %d, %v", gotX, gotBy, gotOK, x, by, ok)
	}
}

func TestP13_1_Linear(t *testing.T) {
	for text, want := range map[string]struct{ x, by int }{
		"( a - 3 ) + 1": {0, -2}, "0": {-1, 0}, "7": {-1, 7}, "2147483647": {-1, most},
		"a": {0, 0}, "c": {2, 0}, "b + 4": {1, 4}, "4 + b": {1, 4}, "b - 4": {1, -4}, "a + 0": {0, 0}, "0 + a": {0, 0},
		"1 + 2": {-1, 3}, "3 - 4": {-1, -1}, "0 - 2147483647 - 1": {-1, least},
		"b - ( 1 - 4 )": {1, 3}, "1 + b - ( 2 + 3 )": {1, -4}, "( 1 - 9 ) + ( b + 2 )": {1, -6}, "( b + 2 ) + ( 1 - 9 )": {1, -6},
		"a + 2147483647 + 2147483647": {0, 2 * most}, "a - 2147483647 - 2147483647": {0, -2 * most},
	} {
		t.Run(text, func(t *testing.T) { wantLinear(t, expr(t, text), want.x, want.by, true) })
	}
	for _, text := range []string{
		"3 - a", "a + b", "a + a", "a - b", "a - a", "1 - ( b - b )", "( a - a ) + 1", "1 + ( a - b )", "( 1 - a ) + 2", "2 + ( 1 - a )",
		"- a", "- 3", "- - a", "a + - 3", "- 3 + a", "a - - 3", "- a - 3", "a * 1", "1 * a", "2 * 3", "a / 1", "6 / 3", "a % 9", "6 % 3", "a + 2 * 3", "2 * 3 + a", "a - 6 / 3", "( a * 1 ) - 1",
	} {
		t.Run(text, func(t *testing.T) { wantLinear(t, expr(t, text), 0, 0, false) })
	}
}

// far tells a number that is written as a sum, for none so great can be written by itself.
func far(n int) check.Expr {
	e := number(min(n, most))
	for n -= e.Num; n > 0; n -= min(n, most) {
		e = of(ast.Add, e, number(min(n, most)))
	}
	return e
}

func TestP13_1_LinearAmounts(t *testing.T) {
	const end = 1 << 40
	below := of(ast.Sub, number(0), far(end))
	wantLinear(t, far(end-1), -1, end-1, true)
	wantLinear(t, far(end), -1, end, true)
	wantLinear(t, far(end+1), 0, 0, false)
	wantLinear(t, below, -1, -end, true)
	wantLinear(t, of(ast.Sub, below, number(1)), 0, 0, false)
	wantLinear(t, of(ast.Sub, below, number(0)), -1, -end, true)
	for _, x := range []int{0, 1, 5} {
		wantLinear(t, of(ast.Add, variable(x), far(end)), x, end, true)
		wantLinear(t, of(ast.Add, far(end), variable(x)), x, end, true)
		wantLinear(t, of(ast.Sub, variable(x), far(end)), x, -end, true)
		wantLinear(t, of(ast.Add, of(ast.Add, variable(x), number(1)), far(end)), 0, 0, false)
		wantLinear(t, of(ast.Add, of(ast.Sub, variable(x), number(1)), far(end)), x, end-1, true)
		wantLinear(t, of(ast.Sub, of(ast.Sub, variable(x), number(1)), far(end)), 0, 0, false)
		// What is too far on the way doesn't come back.
		wantLinear(t, of(ast.Sub, of(ast.Add, variable(x), far(end+1)), number(9)), 0, 0, false)
		wantLinear(t, of(ast.Sub, variable(x), of(ast.Sub, far(end+1), number(9))), 0, 0, false)
		wantLinear(t, of(ast.Sub, of(ast.Add, variable(x), far(end)), far(end)), x, 0, true)
		wantLinear(t, of(ast.Sub, of(ast.Add, variable(x), far(end)), below), 0, 0, false)
	}
}

// flat tells the variables and the amount of sums and differences, and whether
// there is anything else, or a variable that is taken away.
func flat(e check.Expr, sign int) ([]int, int, bool) {
	switch e.Kind {
	case ast.Num:
		return nil, sign * e.Num, true
	case ast.Var:
		return []int{e.Var}, 0, sign > 0
	case ast.Add, ast.Sub:
		left, more, leftOK := flat(e.Kids[0], sign)
		if e.Kind == ast.Sub {
			sign = -sign
		}
		right, by, rightOK := flat(e.Kids[1], sign)
		return append(left, right...), more + by, leftOK && rightOK
	}
	return nil, 0, false
}

// hidden: does a variable stand in what is taken away, be it twice?
func hidden(e check.Expr, away bool) bool {
	if e.Kind == ast.Var {
		return away
	}
	for at, kid := range e.Kids {
		if hidden(kid, away || e.Kind == ast.Sub && at == 1) {
			return true
		}
	}
	return false
}

func TestP13_1_LinearIsFlat(t *testing.T) {
	random := rand.New(rand.NewSource(131))
	told := map[bool]int{}
	for range 20000 {
		e := anyExpr(random.Intn(7), random)
		vars, by, ok := flat(e, 1)
		ok = ok && len(vars) < 2 && !hidden(e, false)
		x := -1
		switch {
		case !ok:
			x, by = 0, 0
		case len(vars) == 1:
			x = vars[0]
		}
		if gotX, gotBy, gotOK := eval.Linear(e); gotX != x || gotBy != by || gotOK != ok {
			t.Fatal(e, gotX, gotBy, gotOK, "want", x, by, ok)
		}
		told[ok]++
	}
	if told[true] < 3000 || told[false] < 3000 {
		t.Error("too few of one kind:", told)
	}
}

// Of each row, an expression that is Linear is the variable's number and so much more.
func TestP13_1_LinearIsWhatStepsMake(t *testing.T) {
	random := rand.New(rand.NewSource(132))
	seen := 0
	for range 20000 {
		e := anyExpr(3, random)
		row := sample.Rows(3, random.Intn)[0]
		n, fault := stepped(e, row)
		x, by, ok := eval.Linear(e)
		if !ok || fault != 0 {
			continue
		}
		if x >= 0 {
			by += row[x]
		}
		if n != by {
			t.Fatal(e, row, n, by)
		}
		seen++
	}
	if seen < 3000 {
		t.Error("too few:", seen)
	}
}

// As deep as anything may be nested.
func TestP13_1_Deep(t *testing.T) {
	left, right, neg := variable(0), variable(0), variable(0)
	const deep = 1<<16 - 2
	for range deep {
		left = of(ast.Add, left, number(1))
		right = of(ast.Add, number(1), right)
		neg = of(ast.Neg, neg)
	}
	a := hull(1, []int{3}, []int{5})
	for _, e := range []check.Expr{left, right} {
		wantLinear(t, e, 0, deep, true)
		if i, errs := eval.Eval(e, a); i != between(3+deep, 5+deep) || errs != fine {
			t.Error(i, errs)
		}
		if b, errs := eval.Assign(a, 0, e); !same(b, hull(1, []int{3 + deep}, []int{5 + deep})) || errs != fine {
			t.Error(b, errs)
		}
		if b, errs := eval.Assume(a, check.Cond{Op: ast.Lt, L: e, R: number(4 + deep)}); !same(b, hull(1, []int{3})) || errs != fine {
			t.Error(b, errs)
		}
	}
	wantLinear(t, neg, 0, 0, false)
	if i, errs := eval.Eval(neg, a); i != between(3, 5) || errs != fine {
		t.Error(i, errs)
	}
}

func TestP1_LinearOfWhatCantBe(t *testing.T) {
	for _, e := range []check.Expr{
		{}, {Kind: -1}, {Kind: 9}, {Kind: ast.Add}, {Kind: ast.Sub}, of(ast.Add, number(1)), of(ast.Sub, number(1)),
		of(ast.Add, number(1), number(2), number(3)), of(ast.Sub, number(1), number(2), number(3)), of(ast.Neg), of(ast.Mul, number(1)),
		of(ast.Add, number(math.MaxInt), number(math.MaxInt)), of(ast.Sub, number(math.MinInt), number(math.MaxInt)), number(math.MinInt),
		variable(-1), variable(-5), variable(math.MaxInt), of(ast.Add, variable(-1), variable(-2)),
	} {
		eval.Linear(e)
	}
}
