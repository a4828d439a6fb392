package step_test

import (
	"math/rand"
	"strings"
	"testing"

	"jetsam/api"
	"jetsam/ast"
	"jetsam/check"
	"jetsam/flow"
	"jetsam/sample"
	"jetsam/step"
)

const least, most = -2147483648, 2147483647

func TestP7_1_Eval(t *testing.T) {
	for _, x := range []struct {
		text       string
		a, b       int
		want, kind int
	}{
		{"7 / 0", 0, 0, 0, api.DivZero},
		{"2147483647 + 1", 0, 0, 0, api.Overflow},
		{"0", 1, 1, 0, 0}, {"2147483647", 0, 0, most, 0},
		{"a", 5, 6, 5, 0}, {"b", 5, 6, 6, 0}, {"a", least, most, least, 0}, {"b", least, most, most, 0},
		{"- a", 5, 0, -5, 0}, {"- a", -5, 0, 5, 0}, {"- a", most, 0, -most, 0}, {"- a", least, 0, 0, api.Overflow}, {"- - a", 0, 0, 0, 0},
		{"a + b", 5, -7, -2, 0}, {"a + b", most, 1, 0, api.Overflow}, {"a + b", least, -1, 0, api.Overflow},
		{"a + b", least, most, -1, 0}, {"a + b", most - 1, 1, most, 0}, {"a + b", least, least, 0, api.Overflow},
		{"a - b", 5, -7, 12, 0}, {"a - b", most, -1, 0, api.Overflow}, {"a - b", least, 1, 0, api.Overflow},
		{"a - b", 0, least, 0, api.Overflow}, {"a - b", -1, least, most, 0}, {"a - b", least, least, 0, 0},
		{"a * b", 5, -7, -35, 0}, {"a * b", least, -1, 0, api.Overflow}, {"a * b", least, 1, least, 0},
		{"a * b", 65536, 65536, 0, api.Overflow}, {"a * b", 65536, 32768, 0, api.Overflow}, {"a * b", -65536, 32768, least, 0},
		{"a * b", 46341, 46341, 0, api.Overflow}, {"a * b", 46340, 46341, 2147441940, 0},
		{"a * b", most, most, 0, api.Overflow}, {"a * b", least, least, 0, api.Overflow}, {"a * b", least, 0, 0, 0},
		{"a / b", 7, 2, 3, 0}, {"a / b", -7, 2, -3, 0}, {"a / b", 7, -2, -3, 0}, {"a / b", -7, -2, 3, 0}, {"a / b", 1, 2, 0, 0}, {"a / b", -1, 2, 0, 0},
		{"a / b", least, -1, 0, api.Overflow}, {"a / b", least, 1, least, 0}, {"a / b", 0, 0, 0, api.DivZero}, {"a / b", 0, least, 0, 0},
		{"a / b", most, least, 0, 0}, {"a / b", least, most, -1, 0},
		{"a % b", 7, 3, 1, 0}, {"a % b", -7, 3, -1, 0}, {"a % b", 7, -3, 1, 0}, {"a % b", -7, -3, -1, 0}, {"a % b", 6, 3, 0, 0},
		{"a % b", least, -1, 0, 0}, {"a % b", 5, 0, 0, api.DivZero}, {"a % b", 0, 5, 0, 0}, {"a % b", least, most, -1, 0}, {"a % b", most, least, most, 0},
		{"1 + 2 * 3", 0, 0, 7, 0}, {"( a - 1 ) * ( b + 1 )", 4, 5, 18, 0}, {"a - b - 1", 9, 3, 5, 0}, {"- a * b", 3, 4, -12, 0},
	} {
		n, kind := step.Eval(expr(t, x.text), []int{x.a, x.b})
		if n != x.want || kind != x.kind {
			t.Errorf("%s of %d, %d: %d, %d, want %d, %d", x.text, x.a, x.b, n, kind, x.want, x.kind)
		}
	}
}

// The left kid's errors come ahead of the right one's, and both ahead of their
// parent's. An error is one, also where nothing would come of it.
func TestP7_1_EvalErrorsInOrder(t *testing.T) {
	const zero, over = "1 / 0", "( 2147483647 + 1 )"
	for text, want := range map[string]int{
		zero + " + " + over:                    api.DivZero,
		over + " + " + zero:                    api.Overflow,
		zero + " * " + over:                    api.DivZero,
		over + " - " + zero:                    api.Overflow,
		over + " / 0":                          api.Overflow,
		over + " % 0":                          api.Overflow,
		"1 / " + over:                          api.Overflow,
		"1 % ( " + zero + " )":                 api.DivZero,
		"0 * " + over:                          api.Overflow,
		over + " - 1":                          api.Overflow,
		over + " * 0":                          api.Overflow,
		"0 * ( " + zero + " )":                 api.DivZero,
		"- ( " + zero + " )":                   api.DivZero,
		"- " + over:                            api.Overflow,
		"( 0 - 2147483647 - 1 ) / - 1":         api.Overflow,
		"- ( 0 - 2147483647 - 1 )":             api.Overflow,
		"2147483647 + 1 - 2147483647":          api.Overflow,
		"( 1 + 1 / 0 ) * ( 1 + " + over + " )": api.DivZero,
	} {
		if n, kind := step.Eval(expr(t, text), []int{0, 0}); n != 0 || kind != want {
			t.Errorf("%s: %d, %d, want %d", text, n, kind, want)
		}
	}
}

// Of expressions that can't be, and of variables that there aren't, it is 0.
func TestP7_1_EvalOfWhatThereIsnt(t *testing.T) {
	one := check.Expr{Kind: ast.Num, Num: 1}
	for _, kind := range []int{0, 9, -1, 1 << 40} {
		for _, kids := range [][]check.Expr{nil, {one}, {one, one}} {
			wantNought(t, check.Expr{Kind: kind, Num: 5, Kids: kids}, []int{7})
		}
	}
	wantNought(t, check.Expr{Kind: ast.Neg}, nil)
	wantNought(t, check.Expr{Kind: ast.Neg, Kids: []check.Expr{one, one}}, nil)
	for kind := ast.Add; kind <= ast.Mod; kind++ {
		for _, kids := range [][]check.Expr{nil, {one}, {one, one, one}} {
			wantNought(t, check.Expr{Kind: kind, Kids: kids}, nil)
		}
	}
	for _, at := range []int{-1, 2, 3, 1 << 40, -1 << 63} {
		wantNought(t, check.Expr{Kind: ast.Var, Var: at}, []int{8, 9})
	}
	wantNought(t, check.Expr{Kind: ast.Var}, nil)
	if n, kind := step.Eval(expr(t, "b + 3"), []int{8}); n != 3 || kind != 0 {
		t.Error(n, kind)
	}
	if n, kind := step.Eval(expr(t, "3 / b"), []int{8}); n != 0 || kind != api.DivZero {
		t.Error(n, kind)
	}
}

func wantNought(t *testing.T, e check.Expr, vars []int) {
	t.Helper()
	if n, kind := step.Eval(e, vars); n != 0 || kind != 0 {
		t.Errorf("%v of %v: %d, %d", e, vars, n, kind)
	}
}

func TestP7_1_Holds(t *testing.T) {
	for sign, want := range map[string][3]bool{
		"==": {false, true, false}, "!=": {true, false, true}, "<": {true, false, false},
		"<=": {true, true, false}, ">": {false, false, true}, ">=": {false, true, true},
	} {
		for _, x := range []struct{ a, b, order int }{
			{1, 2, 0}, {2, 2, 1}, {3, 2, 2}, {least, most, 0}, {most, least, 2}, {least, least, 1}, {most, most, 1}, {-1, 0, 0}, {0, 0, 1}, {0, -1, 2},
		} {
			holds, kind := step.Holds(comparison(t, "a "+sign+" b"), []int{x.a, x.b})
			if holds != want[x.order] || kind != 0 {
				t.Error(x.a, sign, x.b, holds, kind)
			}
		}
		for text, want := range map[string]int{
			"1 / 0 S 2147483647 + 1": api.DivZero,
			"2147483647 + 1 S 1 / 0": api.Overflow,
			"1 S 1 % 0":              api.DivZero,
			"2147483647 * 2 S 1":     api.Overflow,
		} {
			c := comparison(t, strings.ReplaceAll(text, "S", sign))
			if holds, kind := step.Holds(c, []int{0, 0}); holds || kind != want {
				t.Error(text, sign, holds, kind)
			}
		}
	}
	one := check.Expr{Kind: ast.Num, Num: 1}
	for _, op := range []int{0, 7, -1, 1 << 40} {
		if holds, kind := step.Holds(check.Cond{Op: op, L: one, R: one}, nil); holds || kind != 0 {
			t.Error(op, holds, kind)
		}
	}
}

// Of all expressions and comparisons of systems it is what numbers of any size tell.
func TestP7_1_EvalAndHoldsInWords(t *testing.T) {
	random := rand.New(rand.NewSource(71))
	told := map[int]int{}
	for range 3000 {
		s, _ := sample.Sys(random.Intn)
		for i, g := range s.Graphs {
			var vars []int
			for range s.Vars[i] {
				vars = append(vars, sample.Number(random.Intn))
			}
			for _, e := range g.Edges {
				told[wantInWords(t, e, vars)]++
			}
		}
	}
	for _, kind := range []int{0, api.Overflow, api.DivZero} {
		if told[kind] < 300 {
			t.Error("too few of kind", kind, told)
		}
	}
}

func wantInWords(t *testing.T, e flow.Edge, vars []int) int {
	t.Helper()
	switch e.Kind {
	case flow.Assign, flow.Send:
		n, kind := step.Eval(e.E, vars)
		want, wantKind := inWords(e.E, vars)
		if int64(n) != want.Int64() || kind != wantKind {
			t.Fatal(e.E, vars, n, kind, "want", want, wantKind)
		}
		return kind
	case flow.Assume, flow.Assert:
		holds, kind := step.Holds(e.C, vars)
		if want, wantKind := holdsInWords(e.C, vars); holds != want || kind != wantKind {
			t.Fatal(e.C, vars, holds, kind, "want", want, wantKind)
		}
		return kind
	}
	return -1
}

func TestP1_EvalOfWhatIsDeep(t *testing.T) {
	e := check.Expr{Kind: ast.Var}
	for range 1 << 16 {
		e = check.Expr{Kind: ast.Neg, Kids: []check.Expr{e}}
	}
	if n, kind := step.Eval(e, []int{5}); n != 5 || kind != 0 {
		t.Error(n, kind)
	}
	if holds, kind := step.Holds(check.Cond{Op: ast.Le, L: e, R: e}, []int{most}); !holds || kind != 0 {
		t.Error(holds, kind)
	}
}
