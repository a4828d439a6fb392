package eval_test

import (
	"math/rand"
	"testing"

	"jetsam/ast"
	"jetsam/check"
	"jetsam/eval"
	"jetsam/itv"
	"jetsam/num"
	"jetsam/sample"
)

// a is 2 to 5, b is -1 to 3, c is 7.
func abc() num.Num { return box(between(2, 5), between(-1, 3), between(7, 7)) }

func TestP13_1_Eval(t *testing.T) {
	for _, x := range []struct {
		text string
		i    itv.Itv
		errs itv.Errs
	}{
		{"a + 1", between(3, 6), fine},
		{"0", between(0, 0), fine},
		{"2147483647", between(most, most), fine},
		{"a", between(2, 5), fine},
		{"b", between(-1, 3), fine},
		{"- b", between(-3, 1), fine},
		{"- - b", between(-1, 3), fine},
		{"a + b", between(1, 8), fine},
		{"a - b", between(-1, 6), fine},
		{"a - a", between(-3, 3), fine},
		{"a * b", between(-5, 15), fine},
		{"c / a", between(1, 3), fine},
		{"c % a", between(0, 4), fine},
		{"c % 4", between(3, 3), fine},
		{"c / b", between(-7, 7), zero},
		{"c % b", between(0, 2), zero},
		{"c + 2147483640", between(most, most), fine},
		{"c + 2147483641", empty, over},
		{"a + 2147483643", between(most-2, most), over},
		{"a + 2147483643 - 2147483643", between(2, 4), over},
		{"- ( 0 - 2147483647 - 1 )", empty, over},
		{"- ( a - 2147483647 - 4 )", between(most-1, most), over},
		{"a / 0", empty, zero},
		{"a % 0", empty, zero},
		{"0 / 0", empty, zero},
		// Errors of all parts are told.
		{"c / b + ( a + 2147483643 )", between(most-9, most), all},
		{"( a + 2147483643 ) * ( c % b )", between(0, most), all},
		{"- ( c / b )", between(-7, 7), zero},
		{"( 1 / b ) / ( 1 / b )", between(-1, 1), zero},
		// Behind a left part that is nothing nobody looks at the right one.
		{"c / 0 + ( c + 2147483647 )", empty, zero},
		{"( c + 2147483647 ) / 0", empty, over},
		{"( c + 2147483647 ) + ( c / b )", empty, over},
		{"- ( c / 0 )", empty, zero},
		{"- ( c / 0 ) + ( a + 2147483647 )", empty, zero},
		// Behind a left part that is something it is.
		{"c + ( c / 0 )", empty, zero},
		{"( c / b ) + ( c + 2147483647 )", empty, all},
		{"( a + 2147483643 ) % ( c - c )", empty, all},
		{"( a + 2147483643 ) % ( b - b )", between(0, 3), all},
	} {
		i, errs := eval.Eval(expr(t, x.text), abc())
		if i != x.i || errs != x.errs {
			t.Error(x.text, i, errs, "want", x.i, x.errs)
		}
	}
}

func TestP13_1_EvalOfNone(t *testing.T) {
	random := rand.New(rand.NewSource(133))
	for range 2000 {
		n := random.Intn(7)
		if i, errs := eval.Eval(anyExpr(n, random), none(n)); i != empty || errs != fine {
			t.Fatal(n, i, errs)
		}
	}
	for _, text := range []string{"1", "1 / 0", "2147483647 + 1", "a", "- a"} {
		if i, errs := eval.Eval(expr(t, text), none(3)); i != empty || errs != fine {
			t.Error(text, i, errs)
		}
	}
}

// The whole is made of what its parts may be.
func TestP13_1_EvalOfParts(t *testing.T) {
	random := rand.New(rand.NewSource(134))
	kinds := map[int]int{}
	for range 20000 {
		n := random.Intn(7)
		a, e := sample.Num(n, random.Intn), anyExpr(n, random)
		if a.None {
			continue
		}
		var want itv.Itv
		var errs itv.Errs
		switch e.Kind {
		case ast.Num:
			want = itv.Const(e.Num)
		case ast.Var:
			want = a.I[e.Var]
		case ast.Neg:
			kid, wrong := eval.Eval(e.Kids[0], a)
			i, also := itv.Neg(kid)
			want, errs = i, joined(wrong, also)
		default:
			want, errs = ofParts(e, a)
		}
		if i, told := eval.Eval(e, a); i != want || told != errs {
			t.Fatal(e, a, i, told, "want", want, errs)
		}
		kinds[e.Kind]++
	}
	for kind := ast.Num; kind <= ast.Mod; kind++ {
		if kinds[kind] < 500 {
			t.Error("too few of kind", kind, kinds)
		}
	}
}

func joined(a, b itv.Errs) itv.Errs {
	return itv.Errs{Overflow: a.Overflow || b.Overflow, DivZero: a.DivZero || b.DivZero}
}

func ofParts(e check.Expr, a num.Num) (itv.Itv, itv.Errs) {
	left, wrong := eval.Eval(e.Kids[0], a)
	if left.Lo > left.Hi {
		return empty, wrong
	}
	right, also := eval.Eval(e.Kids[1], a)
	i, last := itv.Do(e.Kind, left, right)
	return i, joined(joined(wrong, also), last)
}

// Whatever a run makes of an expression is told, and each of its errors; of one
// row of numbers just that.
func TestP13_1_EvalHasWhatStepsMake(t *testing.T) {
	random := rand.New(rand.NewSource(135))
	faults := map[int]int{}
	for range 30000 {
		n := random.Intn(7)
		rows, e := sample.Rows(n, random.Intn), anyExpr(n, random)
		i, errs := eval.Eval(e, hull(n, rows...))
		for _, row := range rows {
			val, fault := stepped(e, row)
			if fault == 0 && !itv.Has(i, val) || !has(errs, errsOf(fault)) {
				t.Fatal(e, rows, i, errs, "but", row, val, fault)
			}
			alone, told := eval.Eval(e, hull(n, row))
			want := between(val, val)
			if fault != 0 {
				want = empty
			}
			if alone != want || told != errsOf(fault) {
				t.Fatal(e, row, alone, told, "want", want, fault)
			}
			faults[fault]++
		}
	}
	if faults[0] < 10000 || faults[2] < 1000 || faults[3] < 1000 {
		t.Error("too few of one kind:", faults)
	}
}
