package flow_test

import (
	"fmt"
	"math/rand"
	"slices"
	"strings"
	"testing"

	"jetsam/api"
	"jetsam/ast"
	"jetsam/check"
	"jetsam/flow"
	"jetsam/sample"
)

func TestP5_1_Not(t *testing.T) {
	holds := map[int]func(a, b int) bool{
		ast.Eq: func(a, b int) bool { return a == b }, ast.Ne: func(a, b int) bool { return a != b },
		ast.Lt: func(a, b int) bool { return a < b }, ast.Le: func(a, b int) bool { return a <= b },
		ast.Gt: func(a, b int) bool { return a > b }, ast.Ge: func(a, b int) bool { return a >= b },
	}
	for op, is := range holds {
		isNot := holds[flow.Not(op)]
		if isNot == nil || flow.Not(flow.Not(op)) != op {
			t.Fatal(op, flow.Not(op))
		}
		for b := range 3 {
			if is(1, b) == isNot(1, b) {
				t.Error(op, flow.Not(op))
			}
		}
	}
	for _, op := range []int{0, -1, 7, 8, 1 << 62, -1 << 63} {
		if flow.Not(op) != 0 {
			t.Error(op, flow.Not(op))
		}
	}
}

func TestP5_1_Example(t *testing.T) {
	s := build(t, "proc p { var x ; x = 7 ; }")
	want := flow.Sys{
		Graphs: []flow.Graph{{Nodes: 2, Edges: []flow.Edge{{From: 0, To: 1, Kind: flow.Assign, E: num(7)}}}},
		Vars:   []int{1},
	}
	if printed(s) != printed(want) {
		t.Error(s)
	}
}

// Of each kind what an edge of it has, and nothing else.
func TestP5_1_Edges(t *testing.T) {
	s := build(t, `chan c block 2 from p to q { a , b } ; chan d lossy 3 from q to p { a , b } ; rule d { 0 a 1 ; 1 b 0 ; }
proc p { var x ; var y ; y = 1 - - x ; send c . b ( y ) ; assert ( x <= 2 ) ; input y ; recv d { b ( y ) { } } if ( x < y ) { } } proc q { }`)
	less := cond(ast.Lt, variable(0), variable(1))
	notLess := cond(ast.Ge, variable(0), variable(1))
	want := flow.Sys{
		Chans: []check.Chan{{Kind: api.Block, Size: 2, From: 0, To: 1, Tags: 2},
			{Kind: api.Lossy, Size: 3, From: 1, To: 0, Tags: 2, Rule: [][]int{{1, -1}, {-1, 0}}}},
		Graphs: []flow.Graph{{Nodes: 10, Edges: []flow.Edge{
			{From: 0, To: 2, Kind: flow.Assign, Var: 1, E: op(ast.Sub, num(1), op(ast.Neg, variable(0)))},
			{From: 2, To: 3, Kind: flow.Send, Chan: 0, Tag: 1, E: variable(1)},
			{From: 3, To: 4, Kind: flow.Assert, C: cond(ast.Le, variable(0), num(2))},
			{From: 4, To: 5, Kind: flow.Input, Var: 1},
			{From: 5, To: 7, Kind: flow.Recv, Chan: 1, Tag: 1, Var: 1},
			{From: 7, To: 6, Kind: flow.Skip},
			{From: 6, To: 8, Kind: flow.Assume, C: less},
			{From: 8, To: 1, Kind: flow.Skip},
			{From: 6, To: 9, Kind: flow.Assume, C: notLess},
			{From: 9, To: 1, Kind: flow.Skip},
		}}, {Nodes: 2, Edges: []flow.Edge{{From: 0, To: 1, Kind: flow.Skip}}}},
		Vars: []int{2, 0},
	}
	if printed(s) != printed(want) {
		t.Errorf("%v, want\n%v", s, want)
	}
}

func wantGraph(t *testing.T, body, want string) {
	t.Helper()
	const decl = "chan c block 1 from p to q { a , b } ; chan d drop 2 from q to p { a , b , k } ; proc p { var x ; var y ; "
	s := build(t, decl+body+" } proc q { }")
	var lines []string
	for line := range strings.Lines(want) {
		if line = strings.TrimSpace(line); line != "" {
			lines = append(lines, line)
		}
	}
	if got := shown(s.Graphs[0]); got != strings.Join(lines, "\n") {
		t.Errorf("%q:\n%s\nwant%s", body, got, want)
	}
	if !flow.Right(s) {
		t.Errorf("%q: not Right", body)
	}
}

func TestP5_1_Statements(t *testing.T) {
	wantGraph(t, "", `2 nodes []
		0>1 skip`)
	wantGraph(t, "x = 1 ; input y ; send c . b ( x + y ) ;", `4 nodes []
		0>2 v0 = 1
		2>3 input v1
		3>1 send c0.1 (v0+v1)`)
	wantGraph(t, "if ( x == 0 ) { input x ; } else { assert ( x >= y ) ; y = 2 ; }", `5 nodes []
		0>2 assume v0 == 0
		2>1 input v0
		0>3 assume v0 != 0
		3>4 assert v0 >= v1
		4>1 v1 = 2`)
	wantGraph(t, "if ( x <= 0 ) { } y = 1 ;", `5 nodes []
		0>3 assume v0 <= 0
		3>2 skip
		0>4 assume v0 > 0
		4>2 skip
		2>1 v1 = 1`)
	wantGraph(t, "while ( x < 9 ) { x = x + 1 ; x = 2 ; }", `4 nodes [0]
		0>2 assume v0 < 9
		0>1 assume v0 >= 9
		2>3 v0 = (v0+1)
		3>0 v0 = 2`)
	wantGraph(t, "while ( x > 9 ) { }", `3 nodes [0]
		0>2 assume v0 > 9
		0>1 assume v0 <= 9
		2>0 skip`)
	wantGraph(t, "recv d { k ( x ) { x = 1 ; send c . a ( 2 ) ; } a ( y ) { } b ( x ) { recv d { a ( y ) { } } } }", `7 nodes []
		0>2 recv c1.2 v0
		2>3 v0 = 1
		3>1 send c0.0 2
		0>4 recv c1.0 v1
		4>1 skip
		0>5 recv c1.1 v0
		5>6 recv c1.0 v1
		6>1 skip`)
}

func TestP5_1_Nested(t *testing.T) {
	wantGraph(t, `while ( x < 1 ) { while ( x != 2 ) { } if ( x == 3 ) { x = 1 ; x = 2 ; } }
while ( x > 4 ) { input x ; }`, `10 nodes [0 2 3]
		0>3 assume v0 < 1
		0>2 assume v0 >= 1
		3>5 assume v0 != 2
		3>4 assume v0 == 2
		5>3 skip
		4>6 assume v0 == 3
		6>7 v0 = 1
		7>0 v0 = 2
		4>8 assume v0 != 3
		8>0 skip
		2>9 assume v0 > 4
		2>1 assume v0 <= 4
		9>2 input v0`)
	wantGraph(t, `if ( x >= 1 ) { while ( x < 2 ) { recv d { a ( x ) { while ( y < 3 ) { y = 4 ; } } b ( y ) { y = 5 ; } } } } else { if ( y == 6 ) { } }
input x ;`, `11 nodes [3 5]
		0>3 assume v0 >= 1
		3>4 assume v0 < 2
		3>2 assume v0 >= 2
		4>5 recv c1.0 v0
		5>6 assume v1 < 3
		5>3 assume v1 >= 3
		6>5 v1 = 4
		4>7 recv c1.1 v1
		7>3 v1 = 5
		0>8 assume v0 < 1
		8>9 assume v1 == 6
		9>2 skip
		8>10 assume v1 != 6
		10>2 skip
		2>1 input v0`)
	wantGraph(t, "while ( x < 1 ) { while ( x < 2 ) { while ( x < 3 ) { } } }", `5 nodes [0 2 3]
		0>2 assume v0 < 1
		0>1 assume v0 >= 1
		2>3 assume v0 < 2
		2>0 assume v0 >= 2
		3>4 assume v0 < 3
		3>2 assume v0 >= 3
		4>3 skip`)
}

func TestP5_1_HowManyEdges(t *testing.T) {
	c := cond(ast.Eq, num(1), num(1))
	four := check.Stmt{Kind: ast.If, C: c}
	three := check.Stmt{Kind: ast.While, C: c}
	in := check.Stmt{Kind: ast.Input}
	for i, x := range []struct {
		body  []check.Stmt
		edges int
	}{
		{slices.Repeat([]check.Stmt{in}, 399), 399},
		{slices.Repeat([]check.Stmt{in}, 400), 400},
		{slices.Repeat([]check.Stmt{in}, 401), 401},
		{slices.Repeat([]check.Stmt{four}, 100), 400},
		{append(slices.Repeat([]check.Stmt{four}, 100), in), 401},
		{append([]check.Stmt{in, in, in}, slices.Repeat([]check.Stmt{four}, 100)...), 403},
		{append(slices.Repeat([]check.Stmt{three}, 133), in), 400},
		{slices.Repeat([]check.Stmt{three}, 134), 402},
		{repeat([]check.Stmt{in, in}, 199, func(l []check.Stmt) []check.Stmt { return []check.Stmt{{Kind: ast.While, C: c, Body: l}} }), 400},
		{repeat([]check.Stmt{in, in, in}, 199, func(l []check.Stmt) []check.Stmt { return []check.Stmt{{Kind: ast.While, C: c, Body: l}} }), 401},
		{repeat([]check.Stmt{in}, 133, func(l []check.Stmt) []check.Stmt { return []check.Stmt{{Kind: ast.If, C: c, Else: l}} }), 400},
		{repeat([]check.Stmt{in}, 1<<16, func(l []check.Stmt) []check.Stmt { return []check.Stmt{{Kind: ast.If, C: c, Body: l}} }), 3<<16 + 1},
		{slices.Repeat([]check.Stmt{in}, 1<<18), 1 << 18},
	} {
		p := check.Prog{Procs: []check.Proc{{Vars: 1, Body: x.body}, {}}}
		for range 2 {
			s, err := flow.Build(p)
			if x.edges > 400 && (err != api.ErrCount || printed(s) != printed(flow.Sys{})) {
				t.Error(i, x.edges, err)
			}
			if x.edges <= 400 && (err != api.OK || len(s.Graphs) != 2 || len(s.Graphs[0].Edges)+len(s.Graphs[1].Edges) != x.edges+1 || !flow.Right(s)) {
				t.Error(i, x.edges, err)
			}
			slices.Reverse(p.Procs)
		}
	}
	full := check.Prog{Procs: slices.Repeat([]check.Proc{inputs(400)}, 4)}
	if s, err := flow.Build(full); err != api.OK || !flow.Right(s) {
		t.Error("four processes of so many edges", err)
	}
}

func TestP5_1_BuildOfWhatIsNotRight(t *testing.T) {
	for what, p := range map[string]check.Prog{
		"nothing":                  {},
		"five processes":           {Procs: make([]check.Proc, 5)},
		"a kind that can't be":     {Procs: []check.Proc{{Body: []check.Stmt{{Kind: 8}}}}},
		"no such variable":         {Procs: []check.Proc{{Body: []check.Stmt{{Kind: ast.Input}}}}},
		"in the last process":      {Procs: []check.Proc{{}, {Vars: 7}}},
		"a channel that can't be":  {Chans: make([]check.Chan, 1), Procs: make([]check.Proc, 2)},
		"behind one that is long":  {Procs: []check.Proc{inputs(500), {Vars: -1}}},
		"within one that is long":  {Procs: []check.Proc{inputs(500), {Body: inputs(500).Body}}},
		"what a kind doesn't have": {Procs: []check.Proc{{Vars: 1, Body: []check.Stmt{{Kind: ast.Input, Tag: 1}}}}},
	} {
		if s, err := flow.Build(p); err != api.ErrArg || printed(s) != printed(flow.Sys{}) {
			t.Error(what, err, s)
		}
	}
}

func TestP5_1_Out(t *testing.T) {
	g := flow.Graph{Nodes: 4, Edges: []flow.Edge{{From: 2, To: 1}, {From: 0, To: 2}, {From: 2, To: 2}, {From: 3, To: 0}, {From: 2, To: 3}, {From: -7, To: 9}}}
	for node, want := range map[int]string{0: "[1]", 1: "[]", 2: "[0 2 4]", 3: "[3]", 4: "[]", -1: "[]", -7: "[5]", 1 << 62: "[]"} {
		if got := fmt.Sprint(flow.Out(g, node)); got != want {
			t.Error(node, got)
		}
	}
	if len(flow.Out(flow.Graph{}, 0)) != 0 {
		t.Error("edges of nothing")
	}
	s := build(t, "proc p { var x ; while ( x < 1 ) { input x ; } if ( x == 1 ) { x = 1 ; } }")
	total := 0
	for node := range s.Graphs[0].Nodes {
		total += len(flow.Out(s.Graphs[0], node))
	}
	if total != len(s.Graphs[0].Edges) {
		t.Error(total)
	}
}

func TestP5_2_WhatBuildTellsIsRight(t *testing.T) {
	random := rand.New(rand.NewSource(52))
	for round := 0; round < 5000 && !t.Failed(); round++ {
		p := sample.Prog(random.Intn)
		s, err := flow.Build(p)
		if err == api.ErrCount {
			continue
		}
		if err != api.OK || !flow.Right(s) || !rightByWords(s) {
			t.Errorf("%v: %d", p, err)
		}
		if len(s.Graphs) != len(p.Procs) || fmt.Sprint(s.Chans) != fmt.Sprint(p.Chans) {
			t.Errorf("%v: %v", p, s)
		}
		for i, g := range s.Graphs {
			if s.Vars[i] != p.Procs[i].Vars || !slices.IsSorted(g.Heads) || len(g.Heads) != loops(p.Procs[i].Body) {
				t.Errorf("%v: %v", p, s)
			}
		}
	}
}

// loops tells how many loops there are.
func loops(body []check.Stmt) int {
	n := 0
	for _, st := range body {
		if st.Kind == ast.While {
			n++
		}
		n += loops(st.Body) + loops(st.Else)
		for _, arm := range st.Arms {
			n += loops(arm.Body)
		}
	}
	return n
}
