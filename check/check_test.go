package check_test

import (
	"fmt"
	"math/rand"
	"slices"
	"strings"
	"testing"

	"jetsam/api"
	"jetsam/ast"
	"jetsam/check"
	"jetsam/sample"
)

func num(n int) check.Expr { return check.Expr{Kind: ast.Num, Num: n} }

func variable(at int) check.Expr { return check.Expr{Kind: ast.Var, Var: at} }

func op(kind int, kids ...check.Expr) check.Expr { return check.Expr{Kind: kind, Kids: kids} }

func TestP4_1_Example(t *testing.T) {
	wantProg(t, "chan c block 1 from p to q { a } ; proc p { send c . a ( 1 ) ; } proc q { }", check.Prog{
		Chans: []check.Chan{{Kind: api.Block, Size: 1, From: 0, To: 1, Tags: 1}},
		Procs: []check.Proc{{Body: []check.Stmt{{Kind: ast.Send, Chan: 0, Tag: 0, E: num(1)}}}, {}},
	})
	wantProg(t, "proc p { }", check.Prog{Procs: []check.Proc{{}}})
}

const wholeText = `chan c block 3 from p to q { a , b } ; chan d drop 16 from q to p { b , c , a } ; chan e lossy 1 from q to r { x } ;
rule d { } rule c { 3 b 1 ; 0 a 0 ; 1 b 3 ; }
proc p { var x ; var y ;
  x = 1 - - y ; send c . b ( x * 2 ) ;
  if ( x == 0 ) { input y ; } else { input x ; y = 7 / x % 3 ; }
  recv d { a ( y ) { recv d { b ( x ) { } } } b ( x ) { } } }
proc q { var c ; var x ; while ( x < 9 ) { while ( 1 != c ) { } assert ( c >= x ) ; }
  recv c { b ( c ) { send d . c ( 0 ) ; send e . x ( c + 2147483647 ) ; } } if ( x <= 1 ) { } if ( x > 1 ) { } else { } }
proc r { }`

func TestP4_1_Whole(t *testing.T) {
	cond := func(op int, l, r check.Expr) check.Cond { return check.Cond{Op: op, L: l, R: r} }
	wantProg(t, wholeText, check.Prog{
		Chans: []check.Chan{
			{Kind: api.Block, Size: 3, From: 0, To: 1, Tags: 2, Rule: [][]int{{0, -1}, {-1, 3}, {-1, -1}, {-1, 1}}},
			{Kind: api.Drop, Size: 16, From: 1, To: 0, Tags: 3, Rule: [][]int{{-1, -1, -1}}},
			{Kind: api.Lossy, Size: 1, From: 1, To: 2, Tags: 1},
		},
		Procs: []check.Proc{
			{Vars: 2, Body: []check.Stmt{
				{Kind: ast.Assign, Var: 0, E: op(ast.Sub, num(1), op(ast.Neg, variable(1)))},
				{Kind: ast.Send, Chan: 0, Tag: 1, E: op(ast.Mul, variable(0), num(2))},
				{Kind: ast.If, C: cond(ast.Eq, variable(0), num(0)),
					Body: []check.Stmt{{Kind: ast.Input, Var: 1}},
					Else: []check.Stmt{{Kind: ast.Input}, {Kind: ast.Assign, Var: 1, E: op(ast.Mod, op(ast.Div, num(7), variable(0)), num(3))}}},
				{Kind: ast.Recv, Chan: 1, Arms: []check.Arm{
					{Tag: 2, Var: 1, Body: []check.Stmt{{Kind: ast.Recv, Chan: 1, Arms: []check.Arm{{Tag: 0, Var: 0}}}}},
					{Tag: 0, Var: 0}}},
			}},
			{Vars: 2, Body: []check.Stmt{
				{Kind: ast.While, C: cond(ast.Lt, variable(1), num(9)), Body: []check.Stmt{
					{Kind: ast.While, C: cond(ast.Ne, num(1), variable(0))},
					{Kind: ast.Assert, C: cond(ast.Ge, variable(0), variable(1))}}},
				{Kind: ast.Recv, Chan: 0, Arms: []check.Arm{{Tag: 1, Var: 0, Body: []check.Stmt{
					{Kind: ast.Send, Chan: 1, Tag: 1, E: num(0)},
					{Kind: ast.Send, Chan: 2, Tag: 0, E: op(ast.Add, variable(0), num(2147483647))}}}}},
				{Kind: ast.If, C: cond(ast.Le, variable(1), num(1))},
				{Kind: ast.If, C: cond(ast.Gt, variable(1), num(1))},
			}},
			{},
		},
	})
}

// A rule has rows up to the greatest state that a move names, before or behind it.
func TestP4_1_Rules(t *testing.T) {
	for moves, want := range map[string]string{
		"":                        "[[-1 -1]]",
		"0 a 0 ;":                 "[[0 -1]]",
		"0 b 2 ;":                 "[[-1 2] [-1 -1] [-1 -1]]",
		"2 b 0 ;":                 "[[-1 -1] [-1 -1] [-1 0]]",
		"1 a 1 ; 1 b 0 ;":         "[[-1 -1] [1 0]]",
		"2 b 0 ; 0 b 1 ; 0 a 1 ;": "[[1 1] [-1 -1] [-1 0]]",
		"7 a 7 ;":                 "[[-1 -1] [-1 -1] [-1 -1] [-1 -1] [-1 -1] [-1 -1] [-1 -1] [7 -1]]",
		"0 a 7 ;":                 "[[7 -1] [-1 -1] [-1 -1] [-1 -1] [-1 -1] [-1 -1] [-1 -1] [-1 -1]]",
	} {
		p, err := check.Check(system(t, "chan c drop 1 from p to q { a , b } ; rule c { "+moves+" } proc p { } proc q { }"))
		if err != api.OK || fmt.Sprint(p.Chans[0].Rule) != want || !check.Right(p) {
			t.Error(moves, p, err)
		}
	}
	all := row(8, " ", func(i int) string {
		return row(4, " ", func(j int) string { return fmt.Sprintf("%d %c %d ;", i, 'a'+j, (i+j)%8) })
	})
	wantTextErr(t, "chan c drop 1 from p to q { a , b , c , d } ; rule c { "+all+" } proc p { } proc q { }", api.OK)
}

// limits are texts of so many of something, and how many there may be.
func limits() map[string]struct {
	least, most int
	text        func(n int) string
} {
	type limit = struct {
		least, most int
		text        func(n int) string
	}
	const two = " proc p { } proc q { }"
	list := func(kind string) func(i int) string { return func(i int) string { return fmt.Sprintf(kind, i) } }
	return map[string]limit{
		"channels":  {0, 4, func(n int) string { return row(n, " ", list("chan c%d block 1 from p to q { a } ;")) + two }},
		"size":      {1, 16, func(n int) string { return fmt.Sprintf("chan c block %d from p to q { a } ;", n) + two }},
		"drop":      {1, 16, func(n int) string { return fmt.Sprintf("chan c drop %d from p to q { a } ;", n) + two }},
		"lossy":     {1, 16, func(n int) string { return fmt.Sprintf("chan c lossy %d from p to q { a } ;", n) + two }},
		"processes": {1, 4, func(n int) string { return row(n, " ", list("proc p%d { }")) }},
		"variables": {0, 6, func(n int) string { return "proc p { " + row(n, " ", list("var v%d ;")) + " }" }},
		"last's variables": {0, 6, func(n int) string {
			return "proc p { var v0 ; } proc q { " + row(n, " ", list("var v%d ;")) + " }"
		}},
		"tags": {0, 4, func(n int) string {
			return "chan c block 1 from p to q { a" + row(max(n-1, 0), " ", list(", a%d")) + " } ;" + two
		}},
		"last's tags": {0, 4, func(n int) string {
			return "chan c block 1 from p to q { a } ; chan d block 1 from p to q { a" + row(max(n-1, 0), " ", list(", a%d")) + " } ;" + two
		}},
	}
}

func TestP4_1_Limits(t *testing.T) {
	for what, x := range limits() {
		for n := range 40 {
			want := api.OK
			if n < x.least || n > x.most {
				want = api.ErrCount
			}
			wantErr(t, fmt.Sprint(what, " ", n), system(t, x.text(n)), want)
		}
	}
	wantErr(t, "nothing", ast.System{}, api.ErrCount)
	wantTextErr(t, "chan c block 2147483647 from p to q { a } ; proc p { } proc q { }", api.ErrCount)
	for state := range 20 {
		want := api.OK
		if state > 7 {
			want = api.ErrState
		}
		const chans = "chan c block 1 from p to q { a } ; "
		wantTextErr(t, fmt.Sprintf("%s rule c { %d a 0 ; } proc p { } proc q { }", chans, state), want)
		wantTextErr(t, fmt.Sprintf("%s rule c { 0 a %d ; } proc p { } proc q { }", chans, state), want)
	}
	wantTextErr(t, "chan c block 1 from p to q { a } ; rule c { 0 a 2147483647 ; } proc p { } proc q { }", api.ErrState)
}

// A statement stands in the first process, among these channels and variables.
const (
	ahead  = "chan c block 1 from p to q { a , b } ; chan d drop 2 from q to p { a , k } ; proc p { var x ; var y ; x = 1 ; "
	behind = " x = 2 ; } proc q { var z ; var c ; }"
)

func TestP4_1_StatementErrors(t *testing.T) {
	for st, want := range map[string]api.Errno{
		"x = y ;":                        api.OK,
		"z = 1 ;":                        api.ErrName,
		"c = 1 ;":                        api.ErrName,
		"p = 1 ;":                        api.ErrName,
		"x = z ;":                        api.ErrName,
		"x = a ;":                        api.ErrName,
		"x = 1 + - ( 2 * z ) ;":          api.ErrName,
		"x = z % 2 ;":                    api.ErrName,
		"input y ;":                      api.OK,
		"input z ;":                      api.ErrName,
		"input a ;":                      api.ErrName,
		"assert ( x < y ) ;":             api.OK,
		"assert ( z < y ) ;":             api.ErrName,
		"assert ( x < z ) ;":             api.ErrName,
		"if ( x < 1 ) { }":               api.OK,
		"if ( z < 1 ) { }":               api.ErrName,
		"if ( 1 < z ) { }":               api.ErrName,
		"if ( x < 1 ) { input z ; }":     api.ErrName,
		"if ( 1 < 1 ) { } else { z=1;}":  api.ErrName,
		"while ( x < 1 ) { }":            api.OK,
		"while ( z < 1 ) { }":            api.ErrName,
		"while ( 1 < z ) { }":            api.ErrName,
		"while ( 1 < 1 ) { input z ; }":  api.ErrName,
		"send c . b ( 1 ) ;":             api.OK,
		"send x . b ( 1 ) ;":             api.ErrName,
		"send p . b ( 1 ) ;":             api.ErrName,
		"send d . a ( 1 ) ;":             api.ErrEnd,
		"send c . k ( 1 ) ;":             api.ErrName,
		"send c . c ( 1 ) ;":             api.ErrName,
		"send c . a ( z ) ;":             api.ErrName,
		"recv d { a ( x ) { } }":         api.OK,
		"recv x { a ( x ) { } }":         api.ErrName,
		"recv c { a ( x ) { } }":         api.ErrEnd,
		"recv d { b ( x ) { } }":         api.ErrName,
		"recv d { a ( z ) { } }":         api.ErrName,
		"recv d { a ( x ) { z = 1 ; } }": api.ErrName,
		"recv d { a(x) {} k(x) {} }":     api.OK,
		"recv d { a(x) {} a(y) {} }":     api.ErrTwice,
		"recv d { k(x){} a(x){} k(x){}}": api.ErrTwice,
		"recv d { a(x) {} b(y) {} }":     api.ErrName,
		"recv d{a(x){recv d{a(x){}}}}":   api.OK,
		"recv d{a(x){} } recv d{a(x){}}": api.OK,
	} {
		wantTextErr(t, ahead+st+behind, want)
		wantTextErr(t, ahead+"if ( 1 == 1 ) { } else { while ( 1 < 2 ) { recv d { k ( y ) { "+st+" } } } }"+behind, want)
	}
}

// In the order of a statement's words.
func TestP4_1_OrderInStatement(t *testing.T) {
	for st, want := range map[string]api.Errno{
		"send d . none ( z ) ;":                                           api.ErrEnd,
		"send none . none ( z ) ;":                                        api.ErrName,
		"recv c { none ( z ) { } }":                                       api.ErrEnd,
		"recv c { a ( x ) { } a ( x ) { } }":                              api.ErrEnd,
		"recv d { none ( x ) { } none ( x ) { } }":                        api.ErrName,
		"recv d { a ( x ) { } a ( z ) { } }":                              api.ErrTwice,
		"recv d { a ( z ) { } a ( x ) { } }":                              api.ErrName,
		"recv d { a ( x ) { } a ( x ) { send d . a ( 1 ) ; } }":           api.ErrTwice,
		"recv d { a ( x ) { send d . a ( 1 ) ; } a ( x ) { } }":           api.ErrEnd,
		"recv d { a ( z ) { send d . a ( 1 ) ; } }":                       api.ErrName,
		"recv d { a ( x ) { recv d { k ( x ) { } k ( x ) { } } } k(z){}}": api.ErrTwice,
		"if ( z == 1 ) { send d . a ( 1 ) ; }":                            api.ErrName,
		"if ( 1 == z ) { } else { send d . a ( 1 ) ; }":                   api.ErrName,
		"if ( 1 == 1 ) { send d . a ( 1 ) ; } else { input z ; }":         api.ErrEnd,
		"if ( 1 == 1 ) { input z ; } else { send d . a ( 1 ) ; }":         api.ErrName,
		"while ( z == 1 ) { send d . a ( 1 ) ; }":                         api.ErrName,
		"while ( 1 == 1 ) { send d . a ( 1 ) ; input z ; }":               api.ErrEnd,
		"input z ; send d . a ( 1 ) ;":                                    api.ErrName,
		"send d . a ( 1 ) ; input z ;":                                    api.ErrEnd,
	} {
		wantTextErr(t, ahead+st+behind, want)
	}
}

// A fault is put into the system of baseText; it doesn't touch what another
// one puts in.
type fault struct {
	err api.Errno
	put func(s *ast.System)
}

const baseText = `chan c block 1 from p to q { a , b } ; chan d drop 16 from q to p { a } ; chan e drop 1 from q to r { a } ;
rule c { 0 a 1 ; 1 b 0 ; 2 a 1 ; } rule d { 0 a 1 ; }
proc p { var x ; var y ; x = 1 ; x = 1 ; send c . a ( x ) ; recv d { a ( y ) { input x ; } } x = 1 ; }
proc q { var x ; x = 1 ; x = 1 ; } proc r { var u ; var w ; }`

// faults: in the order in which they are looked for.
func faults() []fault {
	return []fault{
		{api.ErrForm, func(s *ast.System) { s.Procs[2].Body = append(s.Procs[2].Body, ast.Stmt{Kind: 99}) }},
		{api.ErrCount, func(s *ast.System) { s.Chans = append(s.Chans, s.Chans[1], s.Chans[1]) }},
		{api.ErrCount, func(s *ast.System) { s.Chans[0].Size = 17 }},
		{api.ErrTwice, func(s *ast.System) { s.Chans[0].Tags[1] = "a" }},
		{api.ErrTwice, func(s *ast.System) { s.Chans[1].Name = "c" }},
		{api.ErrCount, func(s *ast.System) { s.Chans[1].Size = 0 }},
		{api.ErrTwice, func(s *ast.System) { s.Chans[1].Tags = append(s.Chans[1].Tags, s.Chans[1].Tags[0]) }},
		{api.ErrTwice, func(s *ast.System) { s.Chans[2].Name = "c" }},
		{api.ErrCount, func(s *ast.System) { s.Chans[2].Tags = []string{"a", "b", "c", "d", "e", "a"} }},
		{api.ErrCount, func(s *ast.System) { s.Procs = append(s.Procs, s.Procs[2], s.Procs[2]) }},
		{api.ErrTwice, func(s *ast.System) { s.Procs[2].Name = "p" }},
		{api.ErrName, func(s *ast.System) { s.Chans[0].From = "a" }},
		{api.ErrEnd, func(s *ast.System) { s.Chans[1].From = s.Chans[1].To }},
		{api.ErrName, func(s *ast.System) { s.Chans[2].To = "x" }},
		{api.ErrState, func(s *ast.System) { s.Rules[0].Moves[1].To = 8 }},
		{api.ErrTwice, func(s *ast.System) { s.Rules[0].Moves[2].From = 0 }},
		{api.ErrTwice, func(s *ast.System) { s.Rules[1].Chan = "c" }},
		{api.ErrName, func(s *ast.System) { s.Rules[1].Moves[0].Tag = "none" }},
		{api.ErrState, func(s *ast.System) { s.Rules[1].Moves[0].From = 9 }},
		{api.ErrCount, func(s *ast.System) { s.Procs[0].Vars = []string{"x", "y", "a", "b", "c", "d", "x"} }},
		{api.ErrTwice, func(s *ast.System) { s.Procs[0].Vars = append(s.Procs[0].Vars, "y") }},
		{api.ErrName, func(s *ast.System) { s.Procs[0].Body[1].Name = "none" }},
		{api.ErrEnd, func(s *ast.System) { s.Procs[0].Body[2].Name = "d" }},
		{api.ErrName, func(s *ast.System) { s.Procs[0].Body[2].E.Name = "none" }},
		{api.ErrEnd, func(s *ast.System) { s.Procs[0].Body[3].Name = "c" }},
		{api.ErrName, func(s *ast.System) { s.Procs[0].Body[3].Arms[0].Body[0].Name = "none" }},
		{api.ErrTwice, func(s *ast.System) {
			s.Procs[0].Body[3].Arms = append(s.Procs[0].Body[3].Arms, s.Procs[0].Body[3].Arms[0])
		}},
		{api.ErrName, func(s *ast.System) { s.Procs[0].Body[4].Name = "none" }},
		{api.ErrTwice, func(s *ast.System) { s.Procs[1].Vars = append(s.Procs[1].Vars, "x") }},
		{api.ErrName, func(s *ast.System) { s.Procs[1].Body[0].E = ast.Expr{Kind: ast.Var, Name: "y"} }},
		{api.ErrCount, func(s *ast.System) { s.Procs[2].Vars = []string{"a", "b", "c", "d", "e", "f", "a"} }},
	}
}

// Of two faults that are put in, the one that is looked for first is told.
func TestP4_1_Order(t *testing.T) {
	wantTextErr(t, baseText, api.OK)
	list := faults()
	for i, first := range list {
		for j, second := range list[i:] {
			s := system(t, baseText)
			second.put(&s)
			if j > 0 {
				first.put(&s)
			}
			wantErr(t, fmt.Sprint("faults ", i, " and ", i+j), s, first.err)
		}
	}
}

func TestP4_1_OrderOfChannelsAndRules(t *testing.T) {
	const procs = " proc p { } proc q { }"
	for text, want := range map[string]api.Errno{
		"chan c block 0 from p to p { a } ; chan d block 1 from p to x { a , a } ;" + procs:                           api.ErrCount,
		"chan c block 1 from p to p { a } ; chan d block 1 from p to x { a } ;" + procs:                               api.ErrEnd,
		"chan c block 1 from p to x { a } ; chan d block 1 from p to p { a } ;" + procs:                               api.ErrName,
		"chan c block 1 from x to x { a } ;" + procs:                                                                  api.ErrName,
		"chan c block 1 from x to q { a } ;" + procs:                                                                  api.ErrName,
		"chan c block 1 from p to c { a } ;" + procs:                                                                  api.ErrName,
		"chan c block 1 from p to q { a } ; rule d { 9 b 9 ; }" + procs:                                               api.ErrName,
		"chan c block 1 from p to q { a } ; rule p { }" + procs:                                                       api.ErrName,
		"chan c block 1 from p to q { a } ; rule c { 9 b 9 ; }" + procs:                                               api.ErrName,
		"chan c block 1 from p to q { a } ; rule c { 8 a 0 ; 0 b 0 ; }" + procs:                                       api.ErrState,
		"chan c block 1 from p to q { a } ; rule c { 0 b 0 ; 8 a 0 ; }" + procs:                                       api.ErrName,
		"chan c block 1 from p to q { a } ; rule c { 0 a 0 ; 0 a 8 ; }" + procs:                                       api.ErrState,
		"chan c block 1 from p to q { a } ; rule c { 0 a 0 ; 0 a 1 ; 9 a 0 ; }" + procs:                               api.ErrTwice,
		"chan c block 1 from p to q { a } ; rule c { 1 a 0 ; 0 a 0 ; 1 a 0 ; }" + procs:                               api.ErrTwice,
		"chan c block 1 from p to q { a } ; rule c { 0 a 0 ; } rule c { }" + procs:                                    api.ErrTwice,
		"chan c block 1 from p to q { a } ; rule c { } rule c { 9 b 9 ; }" + procs:                                    api.ErrTwice,
		"chan c block 1 from p to q { a } ; chan d block 1 from p to q { b } ; rule d { 0 a 0 ; } rule x { }" + procs: api.ErrName,
		"chan c block 1 from p to q { a } ; chan d block 1 from p to q { a } ; rule d { } rule c { 0 a 1 ; }" + procs: api.OK,
		"chan p block 1 from p to q { p , q } ; chan q drop 1 from q to p { p , q } ; rule p { }" + procs:             api.OK,
	} {
		wantTextErr(t, text, want)
	}
}

// Whatever can't be in a tree is told ahead of all, but not how deep or long it is.
func TestP4_1_Form(t *testing.T) {
	for what, change := range map[string]func(s *ast.System){
		"kind of channel":    func(s *ast.System) { s.Chans[0].Kind = 3 },
		"size":               func(s *ast.System) { s.Chans[0].Size = -1 },
		"no tag":             func(s *ast.System) { s.Chans[2].Tags = nil },
		"name of channel":    func(s *ast.System) { s.Chans[0].Name = "" },
		"from":               func(s *ast.System) { s.Chans[0].From = "if" },
		"tag":                func(s *ast.System) { s.Chans[0].Tags[1] = "A" },
		"state":              func(s *ast.System) { s.Rules[0].Moves[0].To = -1 },
		"move's tag":         func(s *ast.System) { s.Rules[0].Moves[0].Tag = "1" },
		"name of process":    func(s *ast.System) { s.Procs[2].Name = "abcdefghijklm" },
		"variable":           func(s *ast.System) { s.Procs[2].Vars[1] = "x y" },
		"kind of statement":  func(s *ast.System) { s.Procs[0].Body[0].Kind = 0 },
		"kind of expression": func(s *ast.System) { s.Procs[0].Body[0].E.Kind = 9 },
		"number":             func(s *ast.System) { s.Procs[0].Body[0].E.Num = 2147483648 },
		"negative number":    func(s *ast.System) { s.Procs[0].Body[0].E.Num = -1 },
		"count of kids":      func(s *ast.System) { s.Procs[0].Body[0].E = ast.Expr{Kind: ast.Add} },
		"no arm":             func(s *ast.System) { s.Procs[0].Body[3].Arms = nil },
		"comparison":         func(s *ast.System) { s.Procs[0].Body[4] = ast.Stmt{Kind: ast.Assert} },
	} {
		s := system(t, baseText)
		change(&s)
		wantErr(t, what, s, api.ErrForm)
	}
}

func TestP4_1_DeepAndLong(t *testing.T) {
	deep := repeat(ast.Expr{Kind: ast.Num, Num: 1}, 25, func(e ast.Expr) ast.Expr { return ast.Expr{Kind: ast.Neg, Kids: []ast.Expr{e}} })
	long := slices.Repeat([]ast.Stmt{{Kind: ast.Input, Name: "x"}}, 3000)
	for _, x := range []struct {
		body []ast.Stmt
		err  api.Errno
	}{
		{[]ast.Stmt{{Kind: ast.Assign, Name: "x", E: deep}}, api.ErrDeep},
		{long, api.ErrLong},
		{append(slices.Clone(long), ast.Stmt{Kind: ast.Assign, Name: "x", E: deep}), api.ErrDeep},
	} {
		s := ast.System{Procs: []ast.Proc{{Name: "p", Vars: []string{"x"}, Body: x.body}}}
		if _, err := ast.Words(s); err != x.err {
			t.Fatal(err)
		}
		wantErr(t, "deep or long", s, api.OK)
		s.Procs[0].Vars[0] = "y"
		last := &s.Procs[0].Body[len(x.body)-1]
		wantErr(t, "deep or long", s, api.ErrName)
		last.Kind = 8
		wantErr(t, "deep or long", s, api.ErrForm)
	}
}

// What a kind doesn't have may be anything, and isn't told.
func TestP4_1_WhatIsNotLookedAt(t *testing.T) {
	junkE := ast.Expr{Kind: 99, Name: "if", Kids: []ast.Expr{{}, {}, {}}}
	junk := ast.Stmt{Name: "x", Tag: "0", E: junkE, C: ast.Cond{Op: 9, L: junkE, R: junkE}, Body: []ast.Stmt{{}}, Else: []ast.Stmt{{Kind: -1}}, Arms: []ast.Arm{{}}}
	assign, input, assert, while := junk, junk, junk, junk
	assign.Kind, assign.E = ast.Assign, ast.Expr{Kind: ast.Var, Name: "x", Num: -5, Kids: []ast.Expr{junkE}}
	one := ast.Expr{Kind: ast.Num, Num: 1, Name: "if", Kids: []ast.Expr{junkE}}
	sum := ast.Expr{Kind: ast.Add, Num: -1, Name: "no", Kids: []ast.Expr{one, one}}
	input.Kind = ast.Input
	assert.Kind, assert.C = ast.Assert, ast.Cond{Op: ast.Eq, L: one, R: sum}
	while.Kind, while.C, while.Body = ast.While, assert.C, []ast.Stmt{}
	s := ast.System{Procs: []ast.Proc{{Name: "p", Vars: []string{"y", "x"}, Body: []ast.Stmt{assign, input, assert, while}}}}
	p, err := check.Check(s)
	c := check.Cond{Op: ast.Eq, L: num(1), R: op(ast.Add, num(1), num(1))}
	want := check.Prog{Procs: []check.Proc{{Vars: 2, Body: []check.Stmt{
		{Kind: ast.Assign, Var: 1, E: variable(1)}, {Kind: ast.Input, Var: 1}, {Kind: ast.Assert, C: c}, {Kind: ast.While, C: c}}}}}
	if err != api.OK || !same(p, want) || !check.Right(p) {
		t.Error(p, err)
	}
}

// Systems of numbers get names, and come back.
func TestP4_1_RandomSystems(t *testing.T) {
	random := rand.New(rand.NewSource(41))
	for round := 0; round < 3000 && !t.Failed(); round++ {
		want := sample.Prog(random.Intn)
		p, err := check.Check(sample.Named(want))
		if err != api.OK || !same(p, want) {
			t.Errorf("%d, %v, want %v", err, p, want)
		}
	}
}

// All ends, of what is nested as deep as may be, and of what is very wide.
func TestP1_DeepAndWide(t *testing.T) {
	const deep = 1 << 16
	in := func(body ...ast.Stmt) ast.System {
		return ast.System{Procs: []ast.Proc{{Name: "p", Vars: []string{"x"}, Body: body}}}
	}
	one := ast.Expr{Kind: ast.Num, Num: 1}
	c := ast.Cond{Op: ast.Eq, L: one, R: one}
	e := repeat(one, deep, func(e ast.Expr) ast.Expr { return ast.Expr{Kind: ast.Sub, Kids: []ast.Expr{one, e}} })
	wantErr(t, "deep expression", in(ast.Stmt{Kind: ast.Assign, Name: "x", E: e}), api.OK)
	wantErr(t, "deep loops", in(repeat(ast.Stmt{Kind: ast.Input, Name: "x"}, deep, func(st ast.Stmt) ast.Stmt {
		return ast.Stmt{Kind: ast.While, C: c, Body: []ast.Stmt{st}}
	})), api.OK)
	wantErr(t, "deep choices", in(repeat(ast.Stmt{Kind: ast.Input, Name: "y"}, deep, func(st ast.Stmt) ast.Stmt {
		return ast.Stmt{Kind: ast.If, C: c, Else: []ast.Stmt{st}}
	})), api.ErrName)
	arms := repeat([]ast.Stmt(nil), deep, func(body []ast.Stmt) []ast.Stmt {
		return []ast.Stmt{{Kind: ast.Recv, Name: "c", Arms: []ast.Arm{{Tag: "a", Var: "x", Body: body}}}}
	})
	s := in(arms...)
	s.Procs = append(s.Procs, ast.Proc{Name: "q"})
	s.Chans = []ast.Chan{{Name: "c", Size: 1, From: "q", To: "p", Tags: []string{"a"}}}
	wantErr(t, "deep arms", s, api.OK)

	const wide = 1 << 18
	names := strings.Fields(strings.Repeat("x ", wide))
	wantErr(t, "wide", ast.System{Procs: []ast.Proc{{Name: "p", Vars: names}}}, api.ErrCount)
	wantErr(t, "wide", ast.System{Chans: []ast.Chan{{Name: "c", Size: 1, From: "p", To: "q", Tags: names}}}, api.ErrCount)
	wantErr(t, "wide", ast.System{Chans: slices.Repeat([]ast.Chan{{Name: "c", Size: 1, From: "p", To: "q", Tags: []string{"a"}}}, wide)}, api.ErrCount)
	wantErr(t, "wide", in(slices.Repeat([]ast.Stmt{{Kind: ast.Input, Name: "x"}}, wide)...), api.OK)
}
