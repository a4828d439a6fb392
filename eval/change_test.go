package eval_test

import (
	"math/rand"
	"testing"

	"jetsam/ast"
	"jetsam/check"
	"jetsam/eval"
	"jetsam/itv"
	"jetsam/num"
	"jetsam/sample"
	"jetsam/step"
)

func TestP13_1_Assign(t *testing.T) {
	a := abc()
	for _, x := range []struct {
		text string
		want num.Num
		errs itv.Errs
	}{
		{"4", num.Copy(a, 0, -1, 4), fine},
		{"3 - 4", num.Copy(a, 0, -1, -1), fine},
		{"b", num.Copy(a, 0, 1, 0), fine},
		{"b + 3", num.Copy(a, 0, 1, 3), fine},
		{"a", a, fine},
		{"a + 1", num.Copy(a, 0, 0, 1), fine},
		{"a - 1", num.Copy(a, 0, 0, -1), fine},
		{"b + a", num.Set(a, 0, between(1, 8)), fine},
		{"- b", num.Set(a, 0, between(-3, 1)), fine},
		{"b * 1", num.Set(a, 0, between(-1, 3)), fine},
		{"c / b", num.Set(a, 0, between(-7, 7)), zero},
		{"c / 0", none(3), zero},
		{"c + 2147483647", none(3), over},
		{"c + 2147483647 - 2147483647", none(3), over},
		{"b + 2147483647", num.Copy(a, 0, 1, most), over},
		// What was too great on the way is nothing, though the sum isn't.
		{"b + 2147483647 - 2147483647", num.Meet(num.Copy(a, 0, 1, 0), 0, between(-1, 0)), over},
		{"a + 2147483643 - 2147483643", num.Meet(a, 0, between(2, 4)), over},
	} {
		got, errs := eval.Assign(abc(), 0, expr(t, x.text))
		if !same(got, x.want) || errs != x.errs {
			t.Error(x.text, got, errs, "want", x.want, x.errs)
		}
	}
}

// Of a copy all distances are known, of a sum of two only how far it may be.
func TestP13_1_AssignKeepsDistances(t *testing.T) {
	a, _ := eval.Assign(num.Top(3), 0, expr(t, "b - 3"))
	if a.Z.D[1][2] != -3 || a.Z.D[2][1] != 3 || a.I[1] != between(least+3, most) || a.I[0] != between(least, most-3) {
		t.Error(a)
	}
	a, _ = eval.Assign(box(between(1, 4), between(2, 2), between(0, 0)), 2, expr(t, "a + b"))
	if a.I[2] != between(3, 6) || a.Z.D[3][1] != 5 {
		t.Error(a)
	}
}

func TestP13_1_AssignInWords(t *testing.T) {
	random := rand.New(rand.NewSource(136))
	told := map[string]int{}
	for range 20000 {
		n := 1 + random.Intn(6)
		a, x, e := sample.Num(n, random.Intn), random.Intn(n), anyExpr(n, random)
		i, errs := eval.Eval(e, a)
		y, by, ok := eval.Linear(e)
		want, what := none(n), "none"
		switch {
		case i.Lo > i.Hi:
		case ok:
			want, what = num.Meet(num.Copy(a, x, y, by), x, i), "linear"
		default:
			want, what = num.Set(a, x, i), "set"
		}
		got, wrong := eval.Assign(a, x, e)
		if !same(got, want) || wrong != errs {
			t.Fatal(a, x, e, got, wrong, "want", want, errs)
		}
		if !num.Right(got) {
			t.Fatal("not Right", a, x, e, got)
		}
		told[what]++
	}
	for _, what := range []string{"none", "linear", "set"} {
		if told[what] < 2000 {
			t.Error("too few of one kind:", told)
		}
	}
}

// What a run makes is had; of one row of numbers it is that row alone.
func TestP13_1_AssignHasWhatStepsMake(t *testing.T) {
	random := rand.New(rand.NewSource(137))
	for range 20000 {
		n := 1 + random.Intn(6)
		rows, x, e := sample.Rows(n, random.Intn), random.Intn(n), anyExpr(n, random)
		b, errs := eval.Assign(hull(n, rows...), x, e)
		for _, row := range rows {
			val, fault := stepped(e, row)
			want := none(n)
			if fault == 0 {
				want = hull(n, with(row, x, val))
			}
			if fault == 0 && !num.Has(b, with(row, x, val)) || !has(errs, errsOf(fault)) {
				t.Fatal(rows, x, e, b, errs, "but", row, val, fault)
			}
			if alone, told := eval.Assign(hull(n, row), x, e); !same(alone, want) || told != errsOf(fault) {
				t.Fatal(row, x, e, alone, told, "want", want, fault)
			}
		}
	}
}

func TestP13_1_Assume(t *testing.T) {
	a := abc()
	for _, x := range []struct {
		text string
		want num.Num
		errs itv.Errs
	}{
		{"a == 3", num.Meet(a, 0, between(3, 3)), fine},
		{"3 == a", num.Meet(a, 0, between(3, 3)), fine},
		{"a == 6", none(3), fine},
		{"a != 2", num.Meet(a, 0, between(3, 5)), fine},
		{"a != 3", a, fine},
		{"c != 7", none(3), fine},
		{"a + 1 < 4", num.Meet(a, 0, between(2, 2)), fine},
		{"4 > a + 1", num.Meet(a, 0, between(2, 2)), fine},
		{"a - 1 >= 3", num.Meet(a, 0, between(4, 5)), fine},
		{"a <= b", num.Bound(num.Meet(num.Meet(a, 0, between(2, 3)), 1, between(2, 3)), 0, 1, 0), fine},
		{"a < b", num.Bound(num.Meet(num.Meet(a, 0, between(2, 2)), 1, between(3, 3)), 0, 1, -1), fine},
		{"a > b + 2", num.Bound(num.Meet(num.Meet(a, 0, between(2, 5)), 1, between(-1, 2)), 1, 0, -3), fine},
		{"a + 2 >= b", num.Bound(a, 1, 0, 2), fine},
		{"a == b", num.Bound(num.Bound(num.Meet(num.Meet(a, 0, between(2, 3)), 1, between(2, 3)), 0, 1, 0), 1, 0, 0), fine},
		{"a == b + 3", num.Bound(num.Bound(a, 0, 1, 3), 1, 0, -3), fine},
		{"a != b", a, fine},
		{"a < a", num.Meet(a, 0, between(3, 4)), fine},
		{"a == a", a, fine},
		{"a <= a - 1", num.Meet(a, 0, between(3, 4)), fine},
		{"1 < 2", a, fine},
		{"2 < 1", none(3), fine},
		// Parts that aren't Linear tell nothing of their variables.
		{"a * 1 == 3", a, fine},
		{"a * 1 == b", num.Meet(a, 1, between(2, 3)), fine},
		{"b == a * 1", num.Meet(a, 1, between(2, 3)), fine},
		{"a * 2 == 9", a, fine},
		{"a * 2 == 1", none(3), fine},
		{"- a == 0 - 3", a, fine},
		// Errors of both parts, of the right one only if the left one is something.
		{"c / b == 3", a, zero},
		{"a == c / b", a, zero},
		{"c / b <= a + 2147483643", num.Meet(a, 0, between(2, 4)), all},
		{"c / 0 == c + 2147483647", none(3), zero},
		{"c + 2147483647 == c / 0", none(3), over},
		{"c == c / 0", none(3), zero},
		{"a + 2147483643 == c / 0", none(3), all},
		{"a + 2147483643 > 5", num.Meet(a, 0, between(2, 4)), over},
	} {
		got, errs := eval.Assume(abc(), comparison(t, x.text))
		if !same(got, x.want) || errs != x.errs {
			t.Error(x.text, got, errs, "want", x.want, x.errs)
		}
	}
}

// How far two variables are apart is kept, with nought as a variable, too.
func TestP13_1_AssumeBounds(t *testing.T) {
	const far = 200
	square := box(between(-100, 100), between(-100, 100))
	for text, want := range map[string][2]int{
		"a < b": {-1, far}, "a <= b": {0, far}, "a > b": {far, -1}, "a >= b": {far, 0}, "a == b": {0, 0}, "a != b": {far, far},
		"a + 2 < b - 3": {-6, far}, "a + 2 <= b - 3": {-5, far}, "a + 2 > b - 3": {far, 4}, "a + 2 >= b - 3": {far, 5}, "a + 2 == b - 3": {-5, 5}, "a + 2 != b - 3": {far, far},
	} {
		a, _ := eval.Assume(square, comparison(t, text))
		if got := [2]int{a.Z.D[1][2], a.Z.D[2][1]}; got != want {
			t.Error(text, got, "want", want)
		}
	}
	for text, want := range map[string]itv.Itv{
		"a < 5": between(least, 4), "5 < a": between(6, most), "a <= 5": between(least, 5), "a > 5": between(6, most), "5 >= a": between(least, 5),
		"a == 5": between(5, 5), "5 == a": between(5, 5), "a + 1 < 5": between(least, 3), "a - 1 > 5": between(7, most),
	} {
		a, _ := eval.Assume(num.Top(1), comparison(t, text))
		if a.None || a.I[0] != want {
			t.Error(text, a, "want", want)
		}
	}
	// Where a bound rules out more than the two Itvs do.
	a, _ := eval.Assume(hull(2, []int{0, 5}, []int{10, 15}), comparison(t, "a >= b"))
	if !same(a, none(2)) {
		t.Error(a)
	}
	a, _ = eval.Assume(hull(2, []int{0, 5}, []int{10, 15}), comparison(t, "a + 5 == b"))
	if !same(a, hull(2, []int{0, 5}, []int{10, 15})) {
		t.Error(a)
	}
}

// meant is the chapter's Assume, of what Test told.
func meant(a num.Num, c check.Cond, l, r itv.Itv) num.Num {
	x, p, leftOK := eval.Linear(c.L)
	y, q, rightOK := eval.Linear(c.R)
	if leftOK && x >= 0 {
		a = num.Meet(a, x, between(l.Lo-p, l.Hi-p))
	}
	if rightOK && y >= 0 {
		a = num.Meet(a, y, between(r.Lo-q, r.Hi-q))
	}
	if !leftOK || !rightOK || x == y || c.Op == ast.Ne {
		return a
	}
	strict := 0
	if c.Op == ast.Lt || c.Op == ast.Gt {
		strict = 1
	}
	if c.Op != ast.Gt && c.Op != ast.Ge {
		a = num.Bound(a, x, y, q-p-strict)
	}
	if c.Op != ast.Lt && c.Op != ast.Le {
		a = num.Bound(a, y, x, p-q-strict)
	}
	return a
}

func TestP13_1_AssumeInWords(t *testing.T) {
	random := rand.New(rand.NewSource(138))
	told := map[string]int{}
	for range 40000 {
		n := random.Intn(7)
		a, c := sample.Num(n, random.Intn), anyCond(n, random)
		l, errs := eval.Eval(c.L, a)
		r := empty
		if l.Lo <= l.Hi {
			right, also := eval.Eval(c.R, a)
			r, errs = right, joined(errs, also)
		}
		left, right := itv.Test(c.Op, l, r)
		want, what := none(n), "none"
		if left.Lo <= left.Hi && right.Lo <= right.Hi {
			want, what = meant(a, c, left, right), "some"
		}
		if what == "some" && want.None {
			what = "ruled out"
		}
		got, wrong := eval.Assume(a, c)
		if !same(got, want) || wrong != errs {
			t.Fatal(a, c, got, wrong, "want", want, errs)
		}
		if !num.Right(got) || !num.Within(got, a) {
			t.Fatal("not Right, or more than it was", a, c, got)
		}
		told[what]++
	}
	if told["none"] < 3000 || told["some"] < 3000 || told["ruled out"] < 20 {
		t.Error("too few of one kind:", told)
	}
}

// Where a comparison holds, a run goes on; of one row of numbers just there.
func TestP13_1_AssumeHasWhatStepsMake(t *testing.T) {
	random := rand.New(rand.NewSource(139))
	told := map[bool]int{}
	for range 40000 {
		n := random.Intn(7)
		rows, c := sample.Rows(n, random.Intn), anyCond(n, random)
		b, errs := eval.Assume(hull(n, rows...), c)
		for _, row := range rows {
			holds, fault := step.Holds(c, row)
			want := none(n)
			if holds {
				want = hull(n, row)
			}
			if holds && !num.Has(b, row) || !has(errs, errsOf(fault)) {
				t.Fatal(rows, c, b, errs, "but", row, fault)
			}
			if alone, told := eval.Assume(hull(n, row), c); !same(alone, want) || told != errsOf(fault) {
				t.Fatal(row, c, alone, told, "want", want, fault)
			}
			told[holds]++
		}
	}
	if told[true] < 10000 || told[false] < 10000 {
		t.Error("too few of one kind:", told)
	}
}

func TestP13_1_ChangesOfNone(t *testing.T) {
	random := rand.New(rand.NewSource(140))
	for range 2000 {
		n := 1 + random.Intn(6)
		if a, errs := eval.Assign(none(n), random.Intn(n), anyExpr(n, random)); !same(a, none(n)) || errs != fine {
			t.Fatal("Assign", n, a, errs)
		}
		if a, errs := eval.Assume(none(n), anyCond(n, random)); !same(a, none(n)) || errs != fine {
			t.Fatal("Assume", n, a, errs)
		}
	}
	for _, text := range []string{"1 == 1", "1 / 0 == 1", "1 == 2147483647 + 1"} {
		if a, errs := eval.Assume(none(3), comparison(t, text)); !same(a, none(3)) || errs != fine {
			t.Error(text, a, errs)
		}
	}
}
