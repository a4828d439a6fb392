package trans_test

import (
	"math"
	"testing"

	"jetsam/api"
	"jetsam/flow"
	"jetsam/itv"
	"jetsam/num"
	"jetsam/queue"
	"jetsam/rule"
	"jetsam/trans"
)

// edgeOf tells the first edge of a kind of a process's graph.
func edgeOf(t *testing.T, s flow.Sys, proc, kind int) int {
	t.Helper()
	for at, e := range s.Graphs[proc].Edges {
		if e.Kind == kind {
			return at
		}
	}
	t.Fatal("no edge of kind", kind)
	return -1
}

// alone tells the world of one process of two variables with one statement.
func alone(t *testing.T, statement string) trans.World {
	t.Helper()
	return world(system(t, "proc p { var a ; var b ; "+statement+" }"))
}

func plain(n num.Num) trans.State { return trans.State{N: n} }

func TestP14_1_Example(t *testing.T) {
	s := system(t, "proc p { var x ; x = 3 ; }")
	a, _, _ := trans.Step(world(s), 0, 0, trans.Start(s, 0))
	if trans.Empty(a) || a.N.I[0] != between(3, 3) {
		t.Error(a)
	}
}

func TestP14_1_AssignAndInputAndSkip(t *testing.T) {
	n := box(between(2, 5), between(-1, 3))
	for _, x := range []struct {
		statement string
		want      num.Num
		kinds     []int
	}{
		{"a = 7 ;", num.Copy(n, 0, -1, 7), nil},
		{"a = b + 1 ;", num.Copy(n, 0, 1, 1), nil},
		{"b = a * b ;", num.Set(n, 1, between(-5, 15)), nil},
		{"b = 1 / b ;", num.Set(n, 1, between(-1, 1)), []int{api.DivZero}},
		{"a = a + 2147483643 ;", num.Meet(num.Copy(n, 0, 0, most-4), 0, between(most-2, most)), []int{api.Overflow}},
		{"a = a + 2147483643 + 1 / b ;", num.Set(n, 0, between(most-3, most)), []int{api.Overflow, api.DivZero}},
		{"a = 1 / 0 ;", num.None(2), []int{api.DivZero}},
		{"input b ;", num.Set(n, 1, between(least, most)), nil},
		{"", n, nil},
	} {
		wantStep(t, alone(t, x.statement), 0, 0, plain(n), plain(x.want), unsent, x.kinds...)
	}
}

func TestP14_1_AssignLeavesTheRest(t *testing.T) {
	s := system(t, "chan c block 2 from p to q { a } ; rule c { 0 a 1 ; 1 a 0 ; } proc p { var x ; x = 3 ; input x ; if ( x == 1 ) { } assert ( x == 1 ) ; } proc q { }")
	a := one(box(between(0, 9)), between(1, 3), 2)
	for edge, e := range s.Graphs[0].Edges {
		b, _, _ := trans.Step(world(s), 0, edge, a)
		if trans.Empty(b) || b.Counts[0] != between(1, 3) || b.Rules[0] != 2 {
			t.Error(e, b)
		}
	}
	// Where nothing may be behind it there is nothing left of the rest, too.
	s = system(t, "chan c block 2 from p to q { a } ; proc p { var x ; x = 3 / 0 ; assert ( x == 99 ) ; if ( x == 99 ) { } } proc q { }")
	for edge, kinds := range [][]int{{api.DivZero}, {api.FailedAssert}, nil} {
		wantStep(t, world(s), 0, edge, a, one(num.None(1), empty, 0), unsent, kinds...)
	}
}

func TestP14_1_Assume(t *testing.T) {
	n := box(between(2, 5), between(-1, 3))
	for _, x := range []struct {
		comparison   string
		holds, else_ num.Num
		kinds        []int
	}{
		{"a < 4", num.Meet(n, 0, between(2, 3)), num.Meet(n, 0, between(4, 5)), nil},
		{"a == 2", num.Meet(n, 0, between(2, 2)), num.Meet(n, 0, between(3, 5)), nil},
		{"a > 5", num.None(2), n, nil},
		{"a >= 2", n, num.None(2), nil},
		{"a <= b", num.Bound(num.Meet(num.Meet(n, 0, between(2, 3)), 1, between(2, 3)), 0, 1, 0), num.Bound(n, 1, 0, -1), nil},
		{"9 / b != 0", n, n, []int{api.DivZero}},
		{"a * 1073741823 > 9 / b", n, num.None(2), []int{api.Overflow, api.DivZero}},
		{"1 / 0 == 1", num.None(2), num.None(2), []int{api.DivZero}},
	} {
		for _, statement := range []string{"if ( " + x.comparison + " ) { }", "while ( " + x.comparison + " ) { }"} {
			w := alone(t, statement)
			out := flow.Out(w.S.Graphs[0], 0)
			wantStep(t, w, 0, out[0], plain(n), plain(x.holds), unsent, x.kinds...)
			// Errors are told at the first edge alone.
			wantStep(t, w, 0, out[1], plain(n), plain(x.else_), unsent)
		}
	}
}

// The first edge of a node is the one with the least place, wherever it stands.
func TestP14_1_FirstOfItsNode(t *testing.T) {
	w := alone(t, "a = 1 ; if ( 9 / b == 1 ) { a = 2 ; } a = 3 ;")
	g := w.S.Graphs[0]
	seen := 0
	for edge, e := range g.Edges {
		if e.Kind != flow.Assume {
			continue
		}
		_, _, kinds := trans.Step(w, 0, edge, plain(num.Top(2)))
		if first := flow.Out(g, e.From)[0] == edge; first != same(kinds, []int{api.DivZero}) || !first && len(kinds) > 0 {
			t.Error(edge, kinds)
		}
		seen++
	}
	if seen != 2 {
		t.Error(seen)
	}
}

func TestP14_1_Assert(t *testing.T) {
	n := box(between(2, 5), between(-1, 3))
	for _, x := range []struct {
		comparison string
		want       num.Num
		kinds      []int
	}{
		{"a >= 2", n, nil},
		{"a >= 3", num.Meet(n, 0, between(3, 5)), []int{api.FailedAssert}},
		{"a == 9", num.None(2), []int{api.FailedAssert}},
		{"a != 9", n, nil},
		{"a > b", num.Bound(n, 1, 0, -1), []int{api.FailedAssert}},
		{"a + 1 > b", num.Bound(n, 1, 0, 0), []int{api.FailedAssert}},
		{"a + 2 > b", num.Bound(n, 1, 0, 1), nil},
		{"7 / b <= 7", n, []int{api.DivZero}},
		{"7 / b < 7", n, []int{api.FailedAssert, api.DivZero}},
		{"a + 2147483643 > 7 / b", num.Meet(n, 0, between(2, 4)), []int{api.Overflow, api.DivZero}},
		{"a + 2147483643 < 7 / b", num.None(2), []int{api.FailedAssert, api.Overflow, api.DivZero}},
		{"1 / 0 == 1", num.None(2), []int{api.DivZero}},
		{"2147483647 + 1 == 1 / 0", num.None(2), []int{api.Overflow}},
	} {
		wantStep(t, alone(t, "assert ( "+x.comparison+" ) ;"), 0, 0, plain(n), plain(x.want), unsent, x.kinds...)
	}
}

const recvText = "chan c block 4 from p to q { a , b , d , e } ; proc p { } " +
	"proc q { var x ; var y ; recv c { b ( x ) { } a ( y ) { x = 1 ; } } recv c { e ( x ) { } } }"

func TestP14_1_Recv(t *testing.T) {
	s := system(t, recvText)
	n := box(between(2, 5), between(-1, 3))
	a := one(n, between(0, 0), 1)
	none := one(num.None(2), empty, 0)
	byB, byA := edgeOf(t, s, 1, flow.Recv), -1
	byE := -1
	for at, e := range s.Graphs[1].Edges {
		if e.Kind == flow.Recv && e.Tag == 0 {
			byA = at
		}
		if e.Kind == flow.Recv && e.Tag == 3 {
			byE = at
		}
	}
	for _, x := range []struct {
		vals        []itv.Itv
		b, a, e     num.Num
		wrong, also []int
	}{
		{[]itv.Itv{empty, empty, empty, empty}, num.None(2), num.None(2), num.None(2), nil, nil},
		{[]itv.Itv{between(3, 4), empty, empty, empty}, num.None(2), num.Set(n, 1, between(3, 4)), num.None(2), nil, []int{api.WrongTag}},
		{[]itv.Itv{empty, between(7, 9), empty, empty}, num.Set(n, 0, between(7, 9)), num.None(2), num.None(2), nil, []int{api.WrongTag}},
		{[]itv.Itv{between(3, 4), between(7, 9), empty, empty}, num.Set(n, 0, between(7, 9)), num.Set(n, 1, between(3, 4)), num.None(2), nil, []int{api.WrongTag}},
		{[]itv.Itv{between(3, 4), between(7, 9), between(0, 0), empty}, num.Set(n, 0, between(7, 9)), num.Set(n, 1, between(3, 4)), num.None(2), []int{api.WrongTag}, []int{api.WrongTag}},
		{[]itv.Itv{empty, empty, empty, between(least, most)}, num.None(2), num.None(2), num.Set(n, 0, between(least, most)), []int{api.WrongTag}, nil},
		{[]itv.Itv{empty, empty, between(5, 4), between(1, 1)}, num.None(2), num.None(2), num.Set(n, 0, between(1, 1)), []int{api.WrongTag}, nil},
	} {
		w := trans.World{S: s, Elems: []queue.Elem{{Len: between(0, 4), Vals: x.vals}}, Deaf: []bool{false}}
		wantRecv(t, w, byB, a, x.b, none, x.wrong)
		wantRecv(t, w, byA, a, x.a, none, nil)
		wantRecv(t, w, byE, a, x.e, none, x.also)
	}
}

func wantRecv(t *testing.T, w trans.World, edge int, a trans.State, n num.Num, none trans.State, kinds []int) {
	t.Helper()
	behind := one(n, a.Counts[0], a.Rules[0])
	if n.None {
		behind = none
	}
	wantStep(t, w, 1, edge, a, behind, unsent, kinds...)
}

func TestP14_1_NoSuchEdge(t *testing.T) {
	s := system(t, twoText)
	w := world(s)
	for _, at := range []int{math.MinInt, -1, 0, 1, 2, 3, 4, 5, 99, math.MaxInt} {
		for _, proc := range []int{0, 1} {
			if at >= 0 && at < len(s.Graphs[proc].Edges) {
				continue
			}
			wantStep(t, w, proc, at, trans.Start(s, proc), trans.None(s, proc), unsent)
		}
		if at >= 0 && at < 2 {
			continue
		}
		got, sent, kinds := trans.Step(w, at, 0, trans.Start(s, 0))
		if !trans.Empty(got) || sent != unsent || len(kinds) > 0 {
			t.Error(at, got, sent, kinds)
		}
	}
}

func TestP14_1_StepOfNone(t *testing.T) {
	s := system(t, "chan c drop 1 from p to q { a } ; chan d block 1 from q to p { a , b } ; proc p { var x ; x = 1 / 0 ; input x ; assert ( 1 == 2 ) ; send c . a ( 1 / 0 ) ; while ( 1 / 0 == 1 ) { } recv d { a ( x ) { } } } proc q { }")
	w := world(s)
	w.Elems[1] = queue.Elem{Len: between(0, 1), Vals: []itv.Itv{between(0, 0), between(0, 0)}}
	for _, none := range []trans.State{trans.None(s, 0), {N: num.None(1), Counts: []itv.Itv{between(1, 2), between(0, 0)}, Rules: []rule.Set{1, 1}}, {N: num.None(1)}} {
		for edge := range s.Graphs[0].Edges {
			wantStep(t, w, 0, edge, none, trans.None(s, 0), unsent)
		}
	}
}
