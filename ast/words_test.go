package ast

import (
	"slices"
	"strings"
	"testing"

	"jetsam/api"
)

func wantText(t *testing.T, s System, want string) {
	t.Helper()
	if text, err := Text(s); err != api.OK || text != want {
		t.Errorf("Text = %q, %d; want %q", text, err, want)
	}
	if words, err := Words(s); err != api.OK || !slices.Equal(words, strings.Fields(want)) {
		t.Errorf("Words = %q, %d; want those of %q", words, err, want)
	}
}

func wantErrno(t *testing.T, what string, s System, want api.Errno) {
	t.Helper()
	if words, err := Words(s); err != want || (want != api.OK && len(words) > 0) {
		t.Errorf("%q: Words tells %d words, %d; want %d", what, len(words), err, want)
	}
	if text, err := Text(s); err != want || (want != api.OK && text != "") {
		t.Errorf("%q: Text tells %.40q, %d; want %d", what, text, err, want)
	}
}

// wantValue: the words of an expression.
func wantValue(t *testing.T, e Expr, want string) {
	t.Helper()
	wantText(t, value(e), "proc p { x = "+want+" ; } ")
}

func TestP2_1_WholeSystem(t *testing.T) {
	wantText(t, whole(), wholeText)
	wantText(t, System{}, "")
	wantText(t, System{Chans: []Chan{}, Rules: []Rule{}, Procs: []Proc{{Name: "p", Vars: []string{}, Body: []Stmt{}}}}, "proc p { } ")
}

func TestP2_1_EmptyLists(t *testing.T) {
	st := Stmt{Kind: If, C: cond(Eq, num(1), num(2)), Body: []Stmt{}, Else: []Stmt{}}
	wantText(t, proc(st), "proc p { if ( 1 == 2 ) { } } ")
	if !Same(proc(st), proc(Stmt{Kind: If, C: st.C})) {
		t.Error("nil and empty lists are one")
	}
	recv := Stmt{Kind: Recv, Name: "c", Arms: []Arm{{Tag: "a", Var: "x", Body: []Stmt{}}}}
	wantText(t, proc(recv), "proc p { recv c { a ( x ) { } } } ")
	wantText(t, System{Rules: []Rule{{Chan: "c", Moves: []Move{}}}}, "rule c { } ")
}

func TestP2_1_Comparisons(t *testing.T) {
	for op, sign := range map[int]string{Eq: "==", Ne: "!=", Lt: "<", Le: "<=", Gt: ">", Ge: ">="} {
		wantText(t, proc(Stmt{Kind: Assert, C: cond(op, name("a"), num(0))}), "proc p { assert ( a "+sign+" 0 ) ; } ")
	}
}

func TestP2_1_Brackets(t *testing.T) {
	sign := map[int]string{Add: "+", Sub: "-", Mul: "*", Div: "/", Mod: "%"}
	sums, products := []int{Add, Sub}, []int{Mul, Div, Mod}
	both := append(slices.Clone(sums), products...)
	for _, outer := range both {
		for _, inner := range both {
			left := op(outer, op(inner, name("a"), num(1)), num(2))
			right := op(outer, num(2), op(inner, name("a"), num(1)))
			kid := "a " + sign[inner] + " 1"
			l, r := kid, kid
			if slices.Contains(products, outer) && slices.Contains(sums, inner) {
				l = "( " + kid + " )"
			}
			if slices.Contains(products, outer) || slices.Contains(sums, inner) {
				r = "( " + kid + " )"
			}
			wantValue(t, left, l+" "+sign[outer]+" 2")
			wantValue(t, right, "2 "+sign[outer]+" "+r)
		}
		wantValue(t, op(Neg, op(outer, name("a"), num(1))), "- ( a "+sign[outer]+" 1 )")
		wantValue(t, op(outer, op(Neg, name("a")), op(Neg, num(1))), "- a "+sign[outer]+" - 1")
	}
	wantValue(t, op(Neg, op(Neg, num(1))), "- - 1")
	wantValue(t, op(Neg, op(Neg, op(Add, op(Neg, name("a")), num(1)))), "- - ( - a + 1 )")
	wantValue(t, op(Mul, op(Add, name("a"), num(1)), num(2)), "( a + 1 ) * 2")
}

// Of what a kind doesn't have, anything may stand there.
func TestP2_1_WhatIsNotLookedAt(t *testing.T) {
	deep := repeat(num(-1), 40, func(e Expr) Expr { return op(Neg, e) })
	bad := op(Add, deep)
	badCond := Cond{Op: 77, L: bad, R: bad}
	badBody := []Stmt{{Kind: 99}, repeat(Stmt{Kind: -1}, 40, func(st Stmt) Stmt { return while(st) })}
	junk := Stmt{Name: "if", Tag: "0", E: bad, C: badCond, Body: badBody, Else: badBody, Arms: []Arm{{}}}
	good := cond(Lt, Expr{Kind: Num, Num: 1, Name: "else", Kids: []Expr{bad}}, Expr{Kind: Var, Num: -1, Name: "v", Kids: []Expr{bad}})
	sum := Expr{Kind: Add, Num: -1, Name: "!", Kids: []Expr{num(1), {Kind: Neg, Num: -1, Name: "!", Kids: []Expr{num(2)}}}}
	with := func(change func(st *Stmt)) Stmt {
		st := junk
		change(&st)
		return st
	}
	for _, x := range []struct {
		want    string
		st, few Stmt
	}{
		{"n = 1 + - 2 ;", with(func(st *Stmt) { st.Kind, st.Name, st.E = Assign, "n", sum }), assign("n", op(Add, num(1), op(Neg, num(2))))},
		{"if ( 1 < v ) { }", with(func(st *Stmt) { st.Kind, st.C, st.Body, st.Else = If, good, nil, nil }), Stmt{Kind: If, C: cond(Lt, num(1), name("v"))}},
		{"while ( 1 < v ) { }", with(func(st *Stmt) { st.Kind, st.C, st.Body = While, good, nil }), Stmt{Kind: While, C: cond(Lt, num(1), name("v"))}},
		{"send n . t ( 1 + - 2 ) ;", with(func(st *Stmt) { st.Kind, st.Name, st.Tag, st.E = Send, "n", "t", sum }), Stmt{Kind: Send, Name: "n", Tag: "t", E: op(Add, num(1), op(Neg, num(2)))}},
		{"recv n { t ( v ) { } }", with(func(st *Stmt) { st.Kind, st.Name, st.Arms = Recv, "n", []Arm{{Tag: "t", Var: "v"}} }), Stmt{Kind: Recv, Name: "n", Arms: []Arm{{Tag: "t", Var: "v"}}}},
		{"assert ( 1 < v ) ;", with(func(st *Stmt) { st.Kind, st.C = Assert, good }), Stmt{Kind: Assert, C: cond(Lt, num(1), name("v"))}},
		{"input n ;", with(func(st *Stmt) { st.Kind, st.Name = Input, "n" }), input("n")},
	} {
		wantText(t, proc(x.st), "proc p { "+x.want+" } ")
		wantText(t, proc(x.few), "proc p { "+x.want+" } ")
		if !Same(proc(x.st), proc(x.few)) || !Same(proc(x.few), proc(x.st)) {
			t.Error(x.want, "isn't the same with what isn't looked at")
		}
	}
}

func TestP2_1_WordsThatCannotBe(t *testing.T) {
	badNames := []string{"", "if", "chan", "input", "A", "aB", "1", "1a", "a b", " a", "a ", "a\n", "a;", "abcdefghijklm", "+", "a\x00", "\xff", strings.Repeat("x", 1<<20)}
	badNumbers := []int{-1, 2147483648, -2147483648, 1 << 40, -1 << 63, 1<<63 - 1}
	names := map[string]func(s *System, n string){
		"channel":    func(s *System, n string) { s.Chans[1].Name = n },
		"from":       func(s *System, n string) { s.Chans[1].From = n },
		"to":         func(s *System, n string) { s.Chans[2].To = n },
		"first tag":  func(s *System, n string) { s.Chans[0].Tags[0] = n },
		"last tag":   func(s *System, n string) { s.Chans[2].Tags[2] = n },
		"rule":       func(s *System, n string) { s.Rules[1].Chan = n },
		"move":       func(s *System, n string) { s.Rules[0].Moves[1].Tag = n },
		"process":    func(s *System, n string) { s.Procs[2].Name = n },
		"variable":   func(s *System, n string) { s.Procs[0].Vars[1] = n },
		"assign":     func(s *System, n string) { s.Procs[0].Body[0].Name = n },
		"expression": func(s *System, n string) { s.Procs[0].Body[0].E.Kids[1].Kids[0].Name = n },
		"send":       func(s *System, n string) { s.Procs[0].Body[1].Name = n },
		"send's tag": func(s *System, n string) { s.Procs[0].Body[1].Tag = n },
		"sent":       func(s *System, n string) { s.Procs[0].Body[1].E.Kids[0].Name = n },
		"if's left":  func(s *System, n string) { s.Procs[0].Body[2].C.L.Name = n },
		"body":       func(s *System, n string) { s.Procs[0].Body[2].Body[0].Name = n },
		"else":       func(s *System, n string) { s.Procs[0].Body[2].Else[1].Name = n },
		"while":      func(s *System, n string) { s.Procs[1].Body[1].C.L.Name = n },
		"recv":       func(s *System, n string) { s.Procs[1].Body[0].Body[0].Name = n },
		"arm's tag":  func(s *System, n string) { s.Procs[1].Body[0].Body[0].Arms[1].Tag = n },
		"arm's var":  func(s *System, n string) { s.Procs[1].Body[0].Body[0].Arms[1].Var = n },
		"assert":     func(s *System, n string) { s.Procs[1].Body[0].Body[0].Arms[0].Body[0].C.R.Name = n },
	}
	for what, change := range names {
		for _, n := range badNames {
			s := whole()
			change(&s, n)
			wantErrno(t, what+" "+n[:min(len(n), 20)], s, api.ErrForm)
		}
		for _, n := range []string{"a", "abcdefghijkl", "iff", "a0"} {
			s := whole()
			change(&s, n)
			wantErrno(t, what+" "+n, s, api.OK)
		}
	}
	numbers := map[string]func(s *System, n int){
		"size":      func(s *System, n int) { s.Chans[1].Size = n },
		"from":      func(s *System, n int) { s.Rules[0].Moves[0].From = n },
		"to":        func(s *System, n int) { s.Rules[0].Moves[1].To = n },
		"number":    func(s *System, n int) { s.Procs[0].Body[0].E.Kids[0].Num = n },
		"condition": func(s *System, n int) { s.Procs[0].Body[3].C.R.Num = n },
	}
	for what, change := range numbers {
		for _, n := range badNumbers {
			s := whole()
			change(&s, n)
			wantErrno(t, what, s, api.ErrForm)
		}
		for _, n := range []int{0, 1, 17, 2147483647} {
			s := whole()
			change(&s, n)
			wantErrno(t, what, s, api.OK)
		}
	}
}

func TestP2_1_KindsAndCountsThatCannotBe(t *testing.T) {
	kinds := map[string]func(s *System, kind int){
		"channel":    func(s *System, kind int) { s.Chans[1].Kind = kind },
		"statement":  func(s *System, kind int) { s.Procs[1].Body[0].Body[0].Kind = kind },
		"expression": func(s *System, kind int) { s.Procs[0].Body[0].E.Kids[1].Kids[0].Kind = kind },
		"comparison": func(s *System, kind int) { s.Procs[0].Body[2].C.Op = kind },
	}
	least := map[string]int{"channel": 0, "statement": 1, "expression": 1, "comparison": 1}
	most := map[string]int{"channel": 2, "statement": 7, "expression": 8, "comparison": 6}
	for what, change := range kinds {
		for _, kind := range []int{least[what] - 1, most[what] + 1, -1, 99, -1 << 63, 1<<63 - 1} {
			s := whole()
			change(&s, kind)
			wantErrno(t, what, s, api.ErrForm)
		}
	}
	kid := num(1)
	for kind := Neg; kind <= Mod; kind++ {
		for count := 0; count < 5; count++ {
			want := api.ErrForm
			if (kind == Neg && count == 1) || (kind != Neg && count == 2) {
				want = api.OK
			}
			wantErrno(t, "kids", value(op(kind, slices.Repeat([]Expr{kid}, count)...)), want)
		}
	}
	noTag := whole()
	noTag.Chans[1].Tags = nil
	wantErrno(t, "no tag", noTag, api.ErrForm)
	noTag.Chans[1].Tags = []string{}
	wantErrno(t, "no tag", noTag, api.ErrForm)
	noArm := whole()
	noArm.Procs[1].Body[0].Body[0].Arms = nil
	wantErrno(t, "no arm", noArm, api.ErrForm)
}

func TestP2_1_DeepExpressions(t *testing.T) {
	neg := func(e Expr) Expr { return op(Neg, e) }
	right := func(e Expr) Expr { return op(Sub, num(1), e) }
	left := func(e Expr) Expr { return op(Add, e, num(1)) }
	factor := func(e Expr) Expr { return op(Mul, op(Add, e, num(1)), num(2)) }
	both := func(e Expr) Expr { return neg(left(e)) }
	for _, x := range []struct {
		what string
		e    func(n int) Expr
	}{
		{"- in -", func(n int) Expr { return repeat(num(1), n, neg) }},
		{"( in (", func(n int) Expr { return repeat(num(1), n+1, right) }},
		{"( of a factor in (", func(n int) Expr { return repeat(num(1), n, factor) }},
		{"- and ( by turns", func(n int) Expr { return repeat(repeat(num(1), n/2, both), n%2, neg) }},
		{"- on the left", func(n int) Expr { return op(Mul, repeat(num(1), n, neg), num(1)) }},
		{"- on the right", func(n int) Expr { return op(Mul, num(1), repeat(num(1), n, neg)) }},
		{"- in a left row", func(n int) Expr { return repeat(repeat(num(1), n, neg), 300, left) }},
	} {
		places := map[string]func(e Expr) System{
			"assign": value,
			"send":   func(e Expr) System { return proc(Stmt{Kind: Send, Name: "c", Tag: "a", E: e}) },
			"left":   func(e Expr) System { return proc(Stmt{Kind: Assert, C: cond(Eq, e, num(1))}) },
			"right":  func(e Expr) System { return proc(Stmt{Kind: While, C: cond(Eq, num(1), e)}) },
			"if":     func(e Expr) System { return proc(Stmt{Kind: If, C: cond(Eq, num(1), e)}) },
			"inner": func(e Expr) System {
				return proc(while(Stmt{Kind: Recv, Name: "c", Arms: []Arm{{Tag: "a", Var: "b", Body: []Stmt{{Kind: If, C: cond(Eq, num(1), num(1)), Else: []Stmt{assign("x", e)}}}}}}))
			},
		}
		for where, in := range places {
			wantErrno(t, x.what+" "+where, in(x.e(24)), api.OK)
			wantErrno(t, x.what+" "+where, in(x.e(25)), api.ErrDeep)
			wantErrno(t, x.what+" "+where, in(x.e(26)), api.ErrDeep)
		}
	}
	// Only what stands in each other is counted together.
	half := repeat(num(1), 24, neg)
	wantErrno(t, "side by side", value(op(Add, half, half)), api.OK)
	wantErrno(t, "left and right", proc(Stmt{Kind: Assert, C: cond(Eq, half, half)}), api.OK)
	wantErrno(t, "a row without brackets", value(repeat(num(1), 900, left)), api.OK)
}

func TestP2_1_DeepBlocks(t *testing.T) {
	yes := cond(Eq, num(1), num(1))
	then := func(l []Stmt) []Stmt { return []Stmt{{Kind: If, C: yes, Body: l}} }
	other := func(l []Stmt) []Stmt {
		return []Stmt{input("x"), {Kind: If, C: yes, Else: append([]Stmt{input("y")}, l...)}}
	}
	loop := func(l []Stmt) []Stmt { return []Stmt{{Kind: While, C: yes, Body: l}} }
	arm := func(l []Stmt) []Stmt {
		return []Stmt{{Kind: Recv, Name: "c", Arms: []Arm{{Tag: "a", Var: "x"}, {Tag: "b", Var: "x", Body: l}}}}
	}
	for what, wrap := range map[string]func([]Stmt) []Stmt{"if": then, "else": other, "while": loop, "recv": arm} {
		for _, inner := range [][]Stmt{nil, {input("x")}} {
			wantErrno(t, what, proc(repeat(inner, 24, wrap)...), api.OK)
			wantErrno(t, what, proc(repeat(inner, 25, wrap)...), api.ErrDeep)
		}
		mixed := repeat(repeat(repeat([]Stmt(nil), 6, arm), 8, loop), 5, other)
		wantErrno(t, what, proc(repeat(mixed, 5, wrap)...), api.OK)
		wantErrno(t, what, proc(repeat(mixed, 6, wrap)...), api.ErrDeep)
	}
	// Blocks and what stands in expressions aren't counted together.
	deep := repeat(num(1), 24, func(e Expr) Expr { return op(Neg, e) })
	wantErrno(t, "both", proc(repeat([]Stmt{assign("x", deep)}, 24, loop)...), api.OK)
	// An else without a statement is no block.
	row := repeat([]Stmt(nil), 24, loop)
	wantErrno(t, "side by side", proc(append(row, row...)...), api.OK)
}

func TestP2_1_HowManyWords(t *testing.T) {
	// A process has 4 words, an input 3, an assignment of n numbers 2 + 2 * n.
	count := func(inputs, row int) System {
		body := slices.Repeat([]Stmt{input("x")}, inputs)
		e := repeat(num(1), row-1, func(e Expr) Expr { return op(Add, e, num(1)) })
		return proc(append(body, assign("y", e))...)
	}
	if words, err := Words(count(664, 1)); err != api.OK || len(words) != 2000 {
		t.Error(len(words), err)
	}
	if words, err := Words(count(0, 997)); err != api.OK || len(words) != 2000 {
		t.Error(len(words), err)
	}
	wantErrno(t, "2002", count(664, 2), api.ErrLong)
	wantErrno(t, "2001", count(663, 3), api.ErrLong)
	wantErrno(t, "2003", count(665, 1), api.ErrLong)
	tags := func(n int) System {
		return System{Chans: []Chan{{Name: "c", From: "p", To: "q", Tags: slices.Repeat([]string{"a"}, n)}}}
	}
	// A channel of n tags has 10 + 2 * n words.
	if words, err := Words(tags(995)); err != api.OK || len(words) != 2000 {
		t.Error(len(words), err)
	}
	wantErrno(t, "tags", tags(996), api.ErrLong)
	wantErrno(t, "tags", tags(1<<18), api.ErrLong)
}

func TestP2_1_WhichErrorIsTold(t *testing.T) {
	deep := assign("x", repeat(num(1), 25, func(e Expr) Expr { return op(Neg, e) }))
	bad := assign("if", num(1))
	long := slices.Repeat([]Stmt{input("x")}, 700)
	wantErrno(t, "long, deep, bad", proc(append(slices.Clone(long), deep, bad)...), api.ErrForm)
	wantErrno(t, "deep, long, bad", proc(append(append([]Stmt{deep}, long...), bad)...), api.ErrForm)
	wantErrno(t, "long, bad", proc(append(slices.Clone(long), bad)...), api.ErrForm)
	wantErrno(t, "long, deep", proc(append(slices.Clone(long), deep)...), api.ErrDeep)
	wantErrno(t, "long", proc(long...), api.ErrLong)
	wantErrno(t, "bad in the deep", value(repeat(num(-1), 30, func(e Expr) Expr { return op(Neg, e) })), api.ErrForm)
	two := proc(deep)
	two.Procs = append(two.Procs, Proc{Name: "A"})
	wantErrno(t, "deep, then a bad process", two, api.ErrForm)
}
