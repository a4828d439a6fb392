package check_test

import (
	"math/rand"
	"reflect"
	"slices"
	"testing"

	"jetsam/api"
	"jetsam/ast"
	"jetsam/check"
	"jetsam/sample"
)

// A change makes of the system of wholeText one that Check may tell, or not.
type change struct {
	what  string
	right bool
	put   func(p *check.Prog)
}

// changed is a change of a statement: the one of that kind in rightText.
func changed(what string, right bool, kind int, put func(st *check.Stmt)) change {
	return change{what, right, func(p *check.Prog) {
		body := p.Procs[0].Body
		put(&body[slices.IndexFunc(body, func(st check.Stmt) bool { return st.Kind == kind })])
	}}
}

const rightText = `chan c block 3 from p to q { a , b } ; chan d drop 16 from q to p { b , c , a } ; rule c { 3 b 1 ; 0 a 0 ; 1 b 3 ; }
proc p { var x ; var y ; x = 1 - - y ; if ( 1 == 1 ) { } while ( 1 == 1 ) { } send c . a ( 1 ) ;
  recv d { a ( x ) { } b ( y ) { } } assert ( x == 1 ) ; input y ; }
proc q { var z ; }`

func systemChanges() []change {
	manyRows := slices.Repeat([][]int{{7, -1}}, 8)
	return []change{
		{"nothing", true, func(p *check.Prog) {}},
		{"no process", false, func(p *check.Prog) { p.Procs, p.Chans = nil, nil }},
		{"four processes", true, func(p *check.Prog) { p.Procs = append(p.Procs, check.Proc{}, check.Proc{}) }},
		{"five processes", false, func(p *check.Prog) { p.Procs = append(p.Procs, make([]check.Proc, 3)...) }},
		{"four channels", true, func(p *check.Prog) { p.Chans = append(p.Chans, p.Chans...) }},
		{"five channels", false, func(p *check.Prog) { p.Chans = append(p.Chans, p.Chans[0], p.Chans[0], p.Chans[0]) }},
		{"kind below", false, func(p *check.Prog) { p.Chans[1].Kind = -1 }},
		{"lossy", true, func(p *check.Prog) { p.Chans[1].Kind = 2 }},
		{"kind above", false, func(p *check.Prog) { p.Chans[1].Kind = 3 }},
		{"size 0", false, func(p *check.Prog) { p.Chans[1].Size = 0 }},
		{"size 1", true, func(p *check.Prog) { p.Chans[1].Size = 1 }},
		{"size 17", false, func(p *check.Prog) { p.Chans[1].Size = 17 }},
		{"from below", false, func(p *check.Prog) { p.Chans[1].From = -1 }},
		{"from above", false, func(p *check.Prog) { p.Chans[1].From = 2 }},
		{"to below", false, func(p *check.Prog) { p.Chans[1].To = -1 }},
		{"to above", false, func(p *check.Prog) { p.Chans[1].To = 2 }},
		{"both ends one", false, func(p *check.Prog) { p.Chans[1].From = 0 }},
		{"no tags", false, func(p *check.Prog) { p.Chans[1].Tags = 0 }},
		{"too few tags for an arm", false, func(p *check.Prog) { p.Chans[1].Tags = 2 }},
		{"four tags", true, func(p *check.Prog) { p.Chans[1].Tags = 4 }},
		{"five tags", false, func(p *check.Prog) { p.Chans[1].Tags = 5 }},
		{"more tags than the rule's", false, func(p *check.Prog) { p.Chans[0].Tags = 3 }},
		{"no rule", true, func(p *check.Prog) { p.Chans[0].Rule = [][]int{} }},
		{"no moves", true, func(p *check.Prog) { p.Chans[0].Rule = [][]int{{-1, -1}} }},
		{"no moves in two rows", false, func(p *check.Prog) { p.Chans[0].Rule = [][]int{{-1, -1}, {-1, -1}} }},
		{"one move", true, func(p *check.Prog) { p.Chans[0].Rule = [][]int{{-1, 0}} }},
		{"last row not named", false, func(p *check.Prog) { p.Chans[0].Rule = append(p.Chans[0].Rule, []int{-1, -1}) }},
		{"last row named by a move to it", true, func(p *check.Prog) { p.Chans[0].Rule = [][]int{{-1, -1}, {-1, 2}, {-1, -1}} }},
		{"last row named by a move from it", true, func(p *check.Prog) { p.Chans[0].Rule = [][]int{{-1, -1}, {-1, -1}, {-1, 0}} }},
		{"eight rows", true, func(p *check.Prog) { p.Chans[0].Rule = manyRows }},
		{"nine rows", false, func(p *check.Prog) { p.Chans[0].Rule = append(manyRows, []int{8, -1}) }},
		{"nine rows, the last with moves", false, func(p *check.Prog) { p.Chans[0].Rule = append(manyRows, []int{0, -1}) }},
		{"state below", false, func(p *check.Prog) { p.Chans[0].Rule[0][0] = -2 }},
		{"state above", false, func(p *check.Prog) { p.Chans[0].Rule[0][0] = 4 }},
		{"row too short", false, func(p *check.Prog) { p.Chans[0].Rule[2] = []int{-1} }},
		{"row too long", false, func(p *check.Prog) { p.Chans[0].Rule[2] = []int{-1, -1, -1} }},
		{"no row", false, func(p *check.Prog) { p.Chans[0].Rule[2] = nil }},
		{"variables below", false, func(p *check.Prog) { p.Procs[1].Vars = -1 }},
		{"no variables", true, func(p *check.Prog) { p.Procs[1].Vars = 0 }},
		{"too few variables", false, func(p *check.Prog) { p.Procs[0].Vars = 1 }},
		{"six variables", true, func(p *check.Prog) { p.Procs[1].Vars = 6 }},
		{"seven variables", false, func(p *check.Prog) { p.Procs[1].Vars = 7 }},
		{"fault in the last process", false, func(p *check.Prog) { p.Procs[1].Body = []check.Stmt{{}} }},
		{"the other process's statements", false, func(p *check.Prog) { p.Procs[1].Vars, p.Procs[1].Body = 2, p.Procs[0].Body }},
		{"input in the last process", true, func(p *check.Prog) { p.Procs[1].Body = []check.Stmt{{Kind: ast.Input}} }},
		{"variable that isn't in the last process", false, func(p *check.Prog) { p.Procs[1].Body = []check.Stmt{{Kind: ast.Input, Var: 1}} }},
	}
}

func statementChanges() []change {
	bad := []check.Stmt{{Kind: 8}}
	one := check.Cond{Op: ast.Eq, L: num(1), R: num(1)}
	send := []check.Stmt{{Kind: ast.Send, Chan: 1, E: num(1)}}
	return []change{
		changed("variable below", false, ast.Assign, func(st *check.Stmt) { st.Var = -1 }),
		changed("variable above", false, ast.Assign, func(st *check.Stmt) { st.Var = 2 }),
		changed("last variable", true, ast.Assign, func(st *check.Stmt) { st.Var = 1 }),
		changed("kind below", false, ast.Assign, func(st *check.Stmt) { st.Kind = 0 }),
		changed("kind above", false, ast.Assign, func(st *check.Stmt) { st.Kind = 8 }),
		changed("other kind", false, ast.Assign, func(st *check.Stmt) { st.Kind = ast.Input }),
		changed("number", true, ast.Assign, func(st *check.Stmt) { st.E = num(api.MaxInt) }),
		changed("number above", false, ast.Assign, func(st *check.Stmt) { st.E = num(api.MaxInt + 1) }),
		changed("number below", false, ast.Assign, func(st *check.Stmt) { st.E = num(-1) }),
		changed("number with variable", false, ast.Assign, func(st *check.Stmt) { st.E = check.Expr{Kind: ast.Num, Var: 1} }),
		changed("number with kids", false, ast.Assign, func(st *check.Stmt) { st.E = op(ast.Num, num(1)) }),
		changed("variable", true, ast.Assign, func(st *check.Stmt) { st.E = variable(1) }),
		changed("no such variable", false, ast.Assign, func(st *check.Stmt) { st.E = variable(2) }),
		changed("variable with number", false, ast.Assign, func(st *check.Stmt) { st.E.Kids[1].Kids[0].Num = 1 }),
		changed("variable with kids", false, ast.Assign, func(st *check.Stmt) { st.E = op(ast.Var, num(1)) }),
		changed("sum with number", false, ast.Assign, func(st *check.Stmt) { st.E.Num = 1 }),
		changed("sum with variable", false, ast.Assign, func(st *check.Stmt) { st.E.Var = 1 }),
		changed("neg with number", false, ast.Assign, func(st *check.Stmt) { st.E.Kids[1].Num = 1 }),
		changed("neg of none", false, ast.Assign, func(st *check.Stmt) { st.E = op(ast.Neg) }),
		changed("neg of two", false, ast.Assign, func(st *check.Stmt) { st.E = op(ast.Neg, num(1), num(1)) }),
		changed("sum of one", false, ast.Assign, func(st *check.Stmt) { st.E = op(ast.Add, num(1)) }),
		changed("sum of three", false, ast.Assign, func(st *check.Stmt) { st.E = op(ast.Add, num(1), num(1), num(1)) }),
		changed("no expression", false, ast.Assign, func(st *check.Stmt) { st.E = check.Expr{} }),
		changed("kind of expression above", false, ast.Assign, func(st *check.Stmt) { st.E.Kind = 9 }),
		changed("bad left kid", false, ast.Assign, func(st *check.Stmt) { st.E.Kids[0] = variable(-1) }),
		changed("assign with channel", false, ast.Assign, func(st *check.Stmt) { st.Chan = 1 }),
		changed("assign with tag", false, ast.Assign, func(st *check.Stmt) { st.Tag = 1 }),
		changed("assign with comparison", false, ast.Assign, func(st *check.Stmt) { st.C = one }),
		changed("assign with an op", false, ast.Assign, func(st *check.Stmt) { st.C.Op = 1 }),
		changed("assign with a number", false, ast.Assign, func(st *check.Stmt) { st.C.R.Num = 1 }),
		changed("assign with body", false, ast.Assign, func(st *check.Stmt) { st.Body = st.Body[:0]; st.Body = append(st.Body, *st) }),
		changed("assign with empty lists", true, ast.Assign, func(st *check.Stmt) { st.Body, st.Else, st.Arms = []check.Stmt{}, []check.Stmt{}, []check.Arm{} }),
		changed("if with expression", false, ast.If, func(st *check.Stmt) { st.E = num(0) }),
		changed("if with variable", false, ast.If, func(st *check.Stmt) { st.Var = 1 }),
		changed("if with arms", false, ast.If, func(st *check.Stmt) { st.Arms = []check.Arm{{}} }),
		changed("if with bad body", false, ast.If, func(st *check.Stmt) { st.Body = bad }),
		changed("if with bad else", false, ast.If, func(st *check.Stmt) { st.Else = bad }),
		changed("if with else", true, ast.If, func(st *check.Stmt) { st.Else = []check.Stmt{{Kind: ast.Input}} }),
		changed("comparison below", false, ast.If, func(st *check.Stmt) { st.C.Op = 0 }),
		changed("comparison above", false, ast.If, func(st *check.Stmt) { st.C.Op = 7 }),
		changed("last comparison", true, ast.If, func(st *check.Stmt) { st.C.Op = ast.Ge }),
		changed("bad left", false, ast.If, func(st *check.Stmt) { st.C.L = variable(2) }),
		changed("bad right", false, ast.If, func(st *check.Stmt) { st.C.R = variable(2) }),
		changed("while with else", false, ast.While, func(st *check.Stmt) { st.Else = []check.Stmt{{Kind: ast.Input}} }),
		changed("while with bad body", false, ast.While, func(st *check.Stmt) { st.Body = bad }),
		changed("while with body", true, ast.While, func(st *check.Stmt) { st.Body = []check.Stmt{{Kind: ast.Input}} }),
		changed("while with channel", false, ast.While, func(st *check.Stmt) { st.Chan = -1 }),
		changed("other's channel in a loop", false, ast.While, func(st *check.Stmt) { st.Body = send }),
		changed("other's channel", false, ast.Send, func(st *check.Stmt) { *st = send[0] }),
		changed("channel above", false, ast.Send, func(st *check.Stmt) { st.Chan = 2 }),
		changed("channel below", false, ast.Send, func(st *check.Stmt) { st.Chan = -1 }),
		changed("tag", true, ast.Send, func(st *check.Stmt) { st.Tag = 1 }),
		changed("tag above", false, ast.Send, func(st *check.Stmt) { st.Tag = 2 }),
		changed("tag below", false, ast.Send, func(st *check.Stmt) { st.Tag = -1 }),
		changed("send of nothing", false, ast.Send, func(st *check.Stmt) { st.E = check.Expr{} }),
		changed("send with variable", false, ast.Send, func(st *check.Stmt) { st.Var = 1 }),
		changed("recv on other's channel", false, ast.Recv, func(st *check.Stmt) { st.Chan = 0 }),
		changed("recv on no channel", false, ast.Recv, func(st *check.Stmt) { st.Chan = 2 }),
		changed("recv with tag", false, ast.Recv, func(st *check.Stmt) { st.Tag = 1 }),
		changed("recv with variable", false, ast.Recv, func(st *check.Stmt) { st.Var = 1 }),
		changed("no arms", false, ast.Recv, func(st *check.Stmt) { st.Arms = nil }),
		changed("one tag in two arms", false, ast.Recv, func(st *check.Stmt) { st.Arms[1].Tag = st.Arms[0].Tag }),
		changed("all tags", true, ast.Recv, func(st *check.Stmt) { st.Arms = append(st.Arms, check.Arm{Tag: 1, Var: 1}) }),
		changed("arm's tag above", false, ast.Recv, func(st *check.Stmt) { st.Arms[1].Tag = 3 }),
		changed("arm's tag below", false, ast.Recv, func(st *check.Stmt) { st.Arms[1].Tag = -1 }),
		changed("arm's variable above", false, ast.Recv, func(st *check.Stmt) { st.Arms[1].Var = 2 }),
		changed("arm's variable below", false, ast.Recv, func(st *check.Stmt) { st.Arms[1].Var = -1 }),
		changed("arm's bad body", false, ast.Recv, func(st *check.Stmt) { st.Arms[1].Body = bad }),
		changed("assert with expression", false, ast.Assert, func(st *check.Stmt) { st.E.Kids = []check.Expr{{}} }),
		changed("assert with nothing", false, ast.Assert, func(st *check.Stmt) { st.C = check.Cond{} }),
		changed("input with expression", false, ast.Input, func(st *check.Stmt) { st.E.Var = 1 }),
		changed("input of none", false, ast.Input, func(st *check.Stmt) { st.Var = 2 }),
	}
}

func TestP4_1_Right(t *testing.T) {
	if check.Right(check.Prog{}) {
		t.Error("nothing")
	}
	for _, x := range slices.Concat(systemChanges(), statementChanges()) {
		p, _ := check.Check(system(t, rightText))
		x.put(&p)
		if check.Right(p) != x.right {
			t.Error(x.what)
		}
		if back, err := check.Check(sample.Named(p)); (err == api.OK && same(back, p)) != x.right {
			t.Error(x.what, "isn't what Check tells:", err)
		}
	}
}

// spoil changes something of a value that is made of structs, lists and
// numbers: one number, or how many there are of something.
func spoil(random *rand.Rand, v reflect.Value) {
	switch v.Kind() {
	case reflect.Int:
		v.SetInt([]int64{v.Int() + 1, v.Int() - 1, 0, 1, -1, int64(random.Intn(10)), api.MaxInt + 1, 1 << 62}[random.Intn(8)])
	case reflect.Struct:
		spoil(random, v.Field(random.Intn(v.NumField())))
	case reflect.Slice:
		spoilList(random, v)
	}
}

func spoilList(random *rand.Rand, v reflect.Value) {
	n := v.Len()
	switch {
	case n == 0 || random.Intn(30) == 0:
		v.Set(reflect.Append(v, reflect.Zero(v.Type().Elem())))
	case random.Intn(30) == 0:
		v.SetLen(n - 1)
	case random.Intn(30) == 0:
		v.Set(reflect.Append(v, v.Index(random.Intn(n))))
	case random.Intn(30) == 0:
		v.Index(random.Intn(n)).Set(v.Index(random.Intn(n)))
	default:
		spoil(random, v.Index(random.Intn(n)))
	}
}

// Right just if Check tells it of the system that has names for its places.
func TestP4_1_RightIsWhatCheckTells(t *testing.T) {
	random := rand.New(rand.NewSource(42))
	told := map[bool]int{}
	for round := 0; round < 40000 && !t.Failed(); round++ {
		p := sample.Prog(random.Intn)
		for range 1 + random.Intn(2) {
			spoil(random, reflect.ValueOf(&p).Elem())
		}
		back, err := check.Check(sample.Named(p))
		want := err == api.OK && same(back, p)
		if check.Right(p) != want {
			t.Errorf("%v: Right %v, Check tells %d, %v", p, !want, err, back)
		}
		told[want]++
	}
	if told[true] < 2000 || told[false] < 2000 {
		t.Error("too few of one kind:", told)
	}
}

func TestP4_2_WhatCheckTellsIsRight(t *testing.T) {
	random := rand.New(rand.NewSource(43))
	told := map[api.Errno]int{}
	for round := 0; round < 20000 && !t.Failed(); round++ {
		s := sample.Named(sample.Prog(random.Intn))
		if round%4 > 0 {
			p := sample.Prog(random.Intn)
			spoil(random, reflect.ValueOf(&p).Elem())
			s = sample.Named(p)
		}
		p, err := check.Check(s)
		told[err]++
		if check.Right(p) != (err == api.OK) {
			t.Errorf("%v: %d, %v", s, err, p)
		}
	}
	for _, err := range []api.Errno{api.OK, api.ErrForm, api.ErrTwice, api.ErrName, api.ErrEnd, api.ErrCount, api.ErrState} {
		if told[err] == 0 {
			t.Error("no system of", err)
		}
	}
}

func TestP1_RightOfWhatIsDeep(t *testing.T) {
	const deep = 1 << 16
	c := check.Cond{Op: ast.Eq, L: num(1), R: num(1)}
	inner := check.Stmt{Kind: ast.Assert, C: c}
	loops := repeat(inner, deep, func(st check.Stmt) check.Stmt {
		return check.Stmt{Kind: ast.While, C: c, Body: []check.Stmt{st}}
	})
	sums := repeat(num(1), deep, func(e check.Expr) check.Expr { return op(ast.Add, e, num(1)) })
	for _, st := range []check.Stmt{loops, {Kind: ast.Assert, C: check.Cond{Op: ast.Eq, L: sums, R: sums}}} {
		if !check.Right(check.Prog{Procs: []check.Proc{{Body: []check.Stmt{st}}}}) {
			t.Error("not Right")
		}
	}
}
