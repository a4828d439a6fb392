package fix_test

import (
	"slices"
	"testing"

	"jetsam/api"
	"jetsam/check"
	"jetsam/fix"
	"jetsam/flow"
	"jetsam/itv"
	"jetsam/num"
	"jetsam/queue"
	"jetsam/rule"
	"jetsam/trans"
)

var (
	zero  = only(0)
	above = between(0, most)
)

func TestP15_1_NoStatements(t *testing.T) {
	w := alone(t, "")
	f := fixed(t, w, 0)
	start := trans.Start(w.S, 0)
	if !same(f, fix.Fixed{At: []trans.State{start, start}, Steps: 2}) {
		t.Error(f)
	}
}

func TestP15_1_WithoutLoops(t *testing.T) {
	for _, x := range []struct {
		text  string
		want  [][]itv.Itv
		steps int
	}{
		{"x = 3 ; y = x + 1 ;", [][]itv.Itv{{zero, zero, zero}, {only(3), only(4), zero}, {only(3), zero, zero}}, 6},
		{"input x ; if ( x > 5 ) { y = 1 ; } else { y = 3 ; } z = y ;", [][]itv.Itv{
			{zero, zero, zero}, {itv.All(), between(1, 3), between(1, 3)}, {itv.All(), zero, zero},
			{itv.All(), between(1, 3), zero}, {between(6, most), zero, zero}, {between(least, 5), zero, zero},
		}, 24},
		{"x = 3 ; if ( x > 5 ) { y = 1 ; } else { y = 3 ; }", [][]itv.Itv{
			{zero, zero, zero}, {only(3), only(3), zero}, {only(3), zero, zero}, nil, {only(3), zero, zero},
		}, 15},
		// Nothing comes behind what always fails.
		{"assert ( x > 0 ) ; y = 1 ;", [][]itv.Itv{{zero, zero, zero}, nil, nil}, 4},
		// A loop that is never gone round is none.
		{"while ( 1 == 0 ) { x = x + 1 ; }", [][]itv.Itv{{zero, zero, zero}, {zero, zero, zero}, nil}, 6},
	} {
		f := fixed(t, alone(t, x.text), 0)
		wantVars(t, x.text, f, x.want)
		if f.Steps != x.steps {
			t.Error(x.text, f.Steps, "want", x.steps)
		}
	}
}

// At a head all bounds go as far as may be that are beyond those ahead.
func TestP15_1_HeadsAreWidened(t *testing.T) {
	for _, x := range []struct {
		text  string
		want  [][]itv.Itv
		steps int
	}{
		{"while ( x < 10 ) { x = x + 1 ; }", [][]itv.Itv{{above, zero, zero}, {between(10, most), zero, zero}, {between(0, 9), zero, zero}}, 9},
		{"x = 2 ; while ( x < 10 ) { x = x + 1 ; y = 5 ; } z = x ;", [][]itv.Itv{
			{zero, zero, zero}, {between(10, most), above, between(10, most)}, {between(2, most), above, zero},
			{between(10, most), above, zero}, {between(2, 9), above, zero}, {between(3, 10), above, zero},
		}, 24},
		{"x = 7 ; while ( x != 0 ) { x = x - 1 ; }", [][]itv.Itv{
			{zero, zero, zero}, {zero, zero, zero}, {between(least, 7), zero, zero}, {between(least, 7), zero, zero},
		}, 16},
		{"while ( x < 3 ) { while ( y < 4 ) { y = y + 1 ; } x = x + 1 ; }", [][]itv.Itv{
			{above, above, zero}, {between(3, most), above, zero}, {above, above, zero},
			{above, between(4, most), zero}, {above, between(0, 3), zero},
		}, 24},
		{"while ( 0 == 0 ) { x = 1 - x ; }", [][]itv.Itv{{itv.All(), zero, zero}, nil, {itv.All(), zero, zero}}, 12},
		// What is set to the same again isn't beyond what was there.
		{"x = 4 ; while ( z < 1 ) { x = 4 ; input z ; }", [][]itv.Itv{
			{zero, zero, zero}, {only(4), zero, between(1, most)}, {only(4), zero, itv.All()}, {only(4), zero, between(least, 0)}, {only(4), zero, between(least, 0)},
		}, 20},
	} {
		f := fixed(t, alone(t, x.text), 0)
		wantVars(t, x.text, f, x.want)
		if f.Steps != x.steps {
			t.Error(x.text, f.Steps, "want", x.steps)
		}
	}
}

// What was found of a node counts in the same round for those of greater numbers,
// and in the next one for those of lesser numbers.
func TestP15_1_NodesAreRising(t *testing.T) {
	s := flow.Sys{Graphs: []flow.Graph{{Nodes: 5}}, Vars: []int{0}}
	for _, way := range [][]int{{0, 4}, {4, 3}, {3, 2}, {2, 1}} {
		s.Graphs[0].Edges = append(s.Graphs[0].Edges, flow.Edge{From: way[0], To: way[1]})
	}
	w := trans.World{S: s}
	if f := fixed(t, w, 0); f.Steps != 4*5 || !fix.Stable(w, 0, f.At) || trans.Empty(f.At[1]) {
		t.Error(f)
	}
	for at, way := range [][]int{{0, 2}, {2, 3}, {3, 4}, {4, 1}} {
		s.Graphs[0].Edges[at] = flow.Edge{From: way[0], To: way[1]}
	}
	if f := fixed(t, w, 0); f.Steps != 4*3 || !fix.Stable(w, 0, f.At) || trans.Empty(f.At[1]) {
		t.Error(f)
	}
}

func TestP15_1_CountsAndRules(t *testing.T) {
	w := quiet(system(t, "chan c lossy 3 from p to q { a , b } ; rule c { 0 a 1 ; 1 b 2 ; 2 b 2 ; 2 a 0 ; } "+
		"proc p { var x ; input x ; send c . a ( 1 ) ; if ( x > 0 ) { send c . b ( 2 ) ; } while ( x == x ) { send c . b ( 3 ) ; } } proc q { }"))
	f := fixed(t, w, 0)
	counts := []itv.Itv{zero, between(1, 17), zero, only(1), between(1, 17), only(1), only(1), between(1, 17)}
	states := []rule.Set{1, 6, 1, 2, 6, 2, 2, 6}
	for node, a := range f.At {
		if a.Counts[0] != counts[node] || a.Rules[0] != states[node] {
			t.Error("node", node, a, "want", counts[node], states[node])
		}
	}
	if !same(f.Alarms, []fix.Alarm{}) || !same(f.Sent, []queue.Elem{{Len: between(0, 3), Vals: []itv.Itv{only(1), between(2, 3)}}}) {
		t.Error(f.Alarms, f.Sent)
	}
}

func TestP15_1_Sent(t *testing.T) {
	none := queue.Elem{Len: zero, Vals: []itv.Itv{empty, empty}}
	of := func(many int, a, b itv.Itv) queue.Elem {
		return queue.Elem{Len: between(0, many), Vals: []itv.Itv{a, b}}
	}
	for _, x := range []struct {
		text string
		c, d queue.Elem
	}{
		{"", none, none},
		{"x = 3 ;", none, none},
		{"send c . a ( 1 ) ;", of(1, only(1), empty), none},
		{"send c . b ( 1 ) ; send c . b ( 2 ) ;", of(2, empty, between(1, 2)), none},
		// No more than there is room for.
		{"send c . a ( 1 ) ; send c . b ( 2 ) ; send c . a ( 5 ) ;", of(2, between(1, 5), only(2)), none},
		{"send d . b ( 0 - 2 ) ; while ( x < 5 ) { x = x + 1 ; send c . a ( x ) ; }", of(2, between(1, 5), empty), of(1, empty, only(-2))},
		// What can't be sent isn't.
		{"if ( x == 1 ) { send c . a ( 1 ) ; } else { send d . a ( 1 ) ; }", none, of(1, only(1), empty)},
		{"send d . a ( 1 / x ) ;", none, none},
		{"assert ( x == 1 ) ; send c . a ( 1 ) ;", none, none},
		// The way on which most is sent counts.
		{"input x ; if ( x > 1 ) { send d . a ( x ) ; send d . a ( x ) ; } else { send d . b ( x ) ; }", none, of(2, between(2, most), between(least, 1))},
		{"input x ; if ( x > 1 ) { send d . b ( x ) ; } else { send d . b ( 0 ) ; send d . b ( 0 ) ; } send d . a ( 3 ) ;", none, of(3, only(3), between(0, most))},
		// Most may be sent ahead of what always fails.
		{"input x ; if ( x > 1 ) { send d . b ( 1 ) ; send d . b ( 0 ) ; assert ( x < 1 ) ; } else { } send d . a ( 3 ) ;", none, of(2, only(3), between(0, 1))},
	} {
		f := fixed(t, sending(t, x.text), 0)
		if !same(f.Sent, []queue.Elem{x.c, x.d}) {
			t.Error(x.text, f.Sent, "want", x.c, x.d)
		}
	}
}

// What it takes, others sent: it may be any number that the World tells.
func TestP15_1_Received(t *testing.T) {
	w := sending(t, "")
	text := "recv c, and d"
	wantVars(t, text, fixed(t, w, 1), [][]itv.Itv{{zero}, nil, {zero}, nil, nil, nil, nil})
	w.Elems[0] = queue.Elem{Len: between(0, 2), Vals: []itv.Itv{empty, between(2, 3)}}
	w.Elems[1] = queue.Elem{Len: between(0, 1), Vals: []itv.Itv{only(-7), only(1)}}
	f := fixed(t, w, 1)
	wantVars(t, text, f, [][]itv.Itv{{between(least, 0)}, nil, {between(least, 0)}, {between(2, 3)}, nil, {between(2, 3)}, {only(-7)}})
	if !same(f.Alarms, []fix.Alarm{{Proc: 1, Edge: 6, Kind: api.WrongTag}}) || !same(f.Sent, quiet(w.S).Elems) {
		t.Error(f.Alarms, f.Sent)
	}
}

func TestP15_1_Alarms(t *testing.T) {
	for _, x := range []struct {
		text string
		want []fix.Alarm
	}{
		{"x = 3 ; assert ( x == 3 ) ;", nil},
		{"assert ( x > 0 ) ; y = 1 / x ;", []fix.Alarm{{0, 0, api.FailedAssert}}},
		{"x = 7 / 0 ; y = x + 2147483647 ;", []fix.Alarm{{0, 0, api.DivZero}}},
		{"input x ; y = ( x + 1 ) / ( x - 3 ) ; assert ( y + 1 < 5 ) ;", []fix.Alarm{
			{0, 1, api.Overflow}, {0, 1, api.DivZero}, {0, 2, api.FailedAssert}, {0, 2, api.Overflow},
		}},
		// Edges, not nodes, tell the order; that of a node's first edge is told alone.
		{"input x ; while ( 10 / x > 1 ) { assert ( x == 2 ) ; }", []fix.Alarm{{0, 1, api.DivZero}, {0, 3, api.FailedAssert}}},
		{"input x ; if ( x > 0 ) { assert ( x > 1 ) ; } else { assert ( x < 0 ) ; } x = x + 1 ;", []fix.Alarm{
			{0, 2, api.FailedAssert}, {0, 4, api.FailedAssert}, {0, 5, api.Overflow},
		}},
	} {
		if f := fixed(t, alone(t, x.text), 0); !same(f.Alarms, x.want) {
			t.Error(x.text, f.Alarms, "want", x.want)
		}
	}
	w := quiet(system(t, "chan c drop 1 from q to p { a , b } ; rule c { 0 a 1 ; 0 b 0 ; 1 b 0 ; } "+
		"proc p { } proc q { var x ; while ( x == x ) { input x ; send c . a ( 1 ) ; } }"))
	want := []fix.Alarm{{1, 3, api.FullChannel}, {1, 3, api.BrokenRule}}
	if f := fixed(t, w, 1); !same(f.Alarms, want) {
		t.Error(f.Alarms, "want", want)
	}
	w.S.Chans[0].Rule = nil
	want = []fix.Alarm{{1, 3, api.FullChannel}}
	if f := fixed(t, w, 1); !same(f.Alarms, want) {
		t.Error(f.Alarms, "want", want)
	}
}

func TestP15_1_ErrArg(t *testing.T) {
	w := sending(t, "x = 3 ;")
	elem := func(tags int) queue.Elem { return queue.None(check.Chan{Tags: tags}) }
	for at, x := range []struct {
		proc  int
		elems []queue.Elem
		deaf  []bool
		err   api.Errno
	}{
		{0, w.Elems, w.Deaf, api.OK},
		{1, w.Elems, w.Deaf, api.OK},
		{-1, w.Elems, w.Deaf, api.ErrArg},
		{2, w.Elems, w.Deaf, api.ErrArg},
		{0, w.Elems[:1], w.Deaf, api.ErrArg},
		{0, nil, w.Deaf, api.ErrArg},
		{0, []queue.Elem{elem(2), elem(2), elem(2)}, w.Deaf, api.ErrArg},
		{0, []queue.Elem{elem(2), elem(2)}, w.Deaf, api.OK},
		{0, []queue.Elem{elem(2), elem(1)}, w.Deaf, api.ErrArg},
		{0, []queue.Elem{elem(3), elem(2)}, w.Deaf, api.ErrArg},
		{0, []queue.Elem{{}, elem(2)}, w.Deaf, api.ErrArg},
		{0, w.Elems, w.Deaf[:1], api.ErrArg},
		{0, w.Elems, nil, api.ErrArg},
		{0, w.Elems, make([]bool, 3), api.ErrArg},
	} {
		v := trans.World{S: w.S, Elems: x.elems, Deaf: x.deaf}
		f, err := fix.Fix(v, x.proc, 1000)
		if err != x.err || err != api.OK && !same(f, fix.Fixed{}) {
			t.Error(at, f, err)
		}
		// What can't be is told ahead of a budget that is too small.
		if f, err := fix.Fix(v, x.proc, 0); (err == api.ErrArg) != (x.err == api.ErrArg) || f.Steps != 0 {
			t.Error(at, f, err)
		}
	}
}

func TestP15_1_ErrBudget(t *testing.T) {
	for _, text := range []string{"", "x = 1 ;", "while ( x < 10 ) { x = x + 1 ; }", "while ( x < 3 ) { while ( y < 4 ) { y = y + 1 ; } x = x + 1 ; }"} {
		w := alone(t, text)
		want := fixed(t, w, 0)
		for _, budget := range []int{want.Steps, want.Steps + 1, 1 << 62, most} {
			if f, err := fix.Fix(w, 0, budget); err != api.OK || !same(f, want) {
				t.Error(text, budget, f, err)
			}
		}
		for budget := range want.Steps {
			if f, err := fix.Fix(w, 0, budget); err != api.ErrBudget || !same(f, fix.Fixed{Steps: budget}) {
				t.Error(text, budget, f, err)
			}
		}
		for _, budget := range []int{-1, -most, -1 << 63} {
			if f, err := fix.Fix(w, 0, budget); err != api.ErrBudget || !same(f, fix.Fixed{}) {
				t.Error(text, budget, f, err)
			}
		}
	}
}

func TestP15_1_Stable(t *testing.T) {
	w := alone(t, "x = 2 ; y = x + 1 ;")
	at := func(list ...num.Num) []trans.State {
		var all []trans.State
		for _, n := range list {
			all = append(all, trans.State{N: n})
		}
		return all
	}
	start, two, end, none := num.Zeros(3), rows(3, []int{2, 0, 0}), rows(3, []int{2, 3, 0}), num.None(3)
	more := rows(3, []int{2, 0, 0}, []int{4, 0, 0})
	for i, x := range []struct {
		at   []trans.State
		want bool
	}{
		{at(start, end, two), true},
		{at(num.Top(3), num.Top(3), num.Top(3)), true},
		{at(rows(3, []int{0, 0, 0}, []int{9, 0, 0}), end, two), true},
		{at(start, rows(3, []int{2, 3, 0}, []int{4, 5, 0}), more), true},
		// What is too little: where it begins, behind an edge, at a node more than comes there.
		{at(none, none, none), false},
		{at(two, end, two), false},
		{at(start, two, two), false},
		{at(start, none, two), false},
		{at(start, end, none), false},
		{at(start, end, more), false},
		{at(start, end, start), false},
		// As many as there are nodes.
		{at(start, end), false},
		{at(start, end, two, none), false},
		{nil, false},
		{at(num.Zeros(2), num.Zeros(2), num.Zeros(2)), false},
	} {
		if got := fix.Stable(w, 0, x.at); got != x.want {
			t.Error(i, got)
		}
	}
	good := at(start, end, two)
	for _, proc := range []int{-1, 1, most} {
		if fix.Stable(w, proc, good) {
			t.Error("of process", proc)
		}
	}
}

// Counts and rules count, too.
func TestP15_1_StableByCounts(t *testing.T) {
	w := sending(t, "send c . a ( x ) ;")
	zeros := num.Zeros(2)
	start, end := state(zeros, zero, zero), state(zeros, only(1), zero)
	for i, x := range []struct {
		at   []trans.State
		want bool
	}{
		{[]trans.State{start, end}, true},
		{[]trans.State{state(zeros, between(0, 1), zero), state(zeros, between(1, 2), zero)}, true},
		{[]trans.State{state(zeros, between(0, 1), zero), state(zeros, between(1, 1), zero)}, false},
		{[]trans.State{start, state(zeros, between(1, 3), between(0, 9))}, true},
		{[]trans.State{start, start}, false},
		{[]trans.State{end, state(zeros, between(1, 2), zero)}, false},
		{[]trans.State{start, {N: zeros, Counts: end.Counts, Rules: []rule.Set{1, 2}}}, false},
		{[]trans.State{start, {N: zeros, Counts: end.Counts, Rules: []rule.Set{1, 3}}}, true},
		{[]trans.State{start, {N: zeros, Counts: end.Counts[:1], Rules: []rule.Set{1}}}, false},
		{[]trans.State{start, {}}, false},
	} {
		if got := fix.Stable(w, 0, x.at); got != x.want {
			t.Error(i, got)
		}
	}
	// A message more, and what was told of the process that takes it isn't all.
	f := fixed(t, w, 1)
	if !fix.Stable(w, 1, f.At) {
		t.Error(f)
	}
	w.Elems[0] = queue.Send(w.S.Chans[0], w.Elems[0], 1, only(0))
	if fix.Stable(w, 1, f.At) {
		t.Error(f)
	}
}

func TestP15_1_Bound(t *testing.T) {
	for _, x := range []struct {
		text string
		want int
	}{
		{"", 2 * 4 * 2},
		{"x = 1 ; y = 2 ;", 2 * 5 * 3},
		{"if ( x > 0 ) { } else { y = 1 ; }", 2 * 6 * 5},
		{"while ( x < 10 ) { x = x + 1 ; }", 62 * 5 * 4},
		{"while ( x < 3 ) { while ( y < 4 ) { y = y + 1 ; } x = x + 1 ; }", 122 * 7 * 7},
	} {
		w := alone(t, x.text)
		if got := fix.Bound(w, 0); got != x.want {
			t.Error(x.text, got, "want", x.want)
		}
		for _, proc := range []int{-1, 1, most, least} {
			if got := fix.Bound(w, proc); got != 0 {
				t.Error("process", proc, got)
			}
		}
		// What may be in the channels doesn't change it.
		if got := fix.Bound(trans.World{S: w.S}, 0); got != x.want {
			t.Error(x.text, got, "want", x.want)
		}
	}
	w := sending(t, "x = 1 ;")
	if got := []int{fix.Bound(w, 0), fix.Bound(w, 1)}; !slices.Equal(got, []int{2 * 4 * 2, 62 * 9 * 9}) {
		t.Error(got)
	}
}
