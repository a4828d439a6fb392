package trans_test

import (
	"strconv"
	"testing"

	"jetsam/api"
	"jetsam/flow"
	"jetsam/itv"
	"jetsam/num"
	"jetsam/rule"
	"jetsam/trans"
)

// sender tells the world of a process that sends once on a channel of two tags,
// with a rule, if moves are told, and of one that receives from it, or not.
func sender(t *testing.T, kind string, size int, moves, send string, deaf bool) trans.World {
	t.Helper()
	text := "chan c " + kind + " " + strconv.Itoa(size) + " from p to q { a , b } ; "
	if moves != "" {
		text += "rule c { " + moves + " } "
	}
	text += "proc p { var x ; var y ; send c . " + send + " ; } proc q { var z ; "
	if !deaf {
		text += "recv c { a ( z ) { } } "
	}
	return world(system(t, text+"}"))
}

func xy() num.Num { return box(between(2, 5), between(-1, 3)) }

func sentAs(tag, lo, hi int) trans.Sent { return trans.Sent{Chan: 0, Tag: tag, Vals: between(lo, hi)} }

func TestP14_1_SendCounts(t *testing.T) {
	full := []int{api.FullChannel}
	nothing := between(1, 0)
	for _, x := range []struct {
		kind          string
		size          int
		deaf          bool
		count, behind itv.Itv
		kinds         []int
	}{
		{"block", 2, false, between(0, 0), between(1, 1), nil},
		{"block", 2, false, between(0, 1), between(1, 2), nil},
		{"block", 2, false, between(1, 2), between(2, 3), nil},
		{"block", 2, false, between(2, 3), between(3, 3), nil},
		{"block", 2, false, between(3, 3), between(3, 3), nil},
		{"block", 2, false, between(0, 17), between(1, 3), nil},
		{"block", 16, false, between(0, 17), between(1, 17), nil},
		{"block", 16, false, between(17, 17), between(17, 17), nil},
		{"lossy", 2, false, between(1, 3), between(2, 3), nil},
		{"lossy", 2, true, between(1, 3), between(2, 3), nil},
		{"lossy", 2, true, between(2, 2), between(3, 3), nil},
		{"lossy", 2, true, between(3, 3), between(3, 3), nil},
		{"lossy", 1, true, between(0, 17), between(1, 2), nil},
		{"drop", 2, false, between(0, 1), between(1, 2), nil},
		{"drop", 2, false, between(0, 2), between(1, 3), full},
		{"drop", 2, false, between(2, 2), between(3, 3), full},
		{"drop", 2, false, between(3, 3), between(3, 3), full},
		{"drop", 2, false, between(0, 17), between(1, 3), full},
		{"block", 2, true, between(0, 1), between(1, 2), nil},
		{"block", 2, true, between(0, 2), between(1, 2), nil},
		{"block", 2, true, between(1, 17), between(2, 2), nil},
		{"block", 2, true, between(2, 2), nothing, nil},
		{"block", 2, true, between(2, 3), nothing, nil},
		{"block", 16, true, between(0, 17), between(1, 16), nil},
		{"block", 16, true, between(16, 17), nothing, nil},
		{"drop", 2, true, between(0, 1), between(1, 2), nil},
		{"drop", 2, true, between(0, 2), between(1, 2), full},
		{"drop", 2, true, between(1, 17), between(2, 2), full},
		{"drop", 2, true, between(2, 2), nothing, full},
		{"drop", 2, true, between(2, 3), nothing, full},
		{"drop", 1, true, between(0, 0), between(1, 1), nil},
		{"drop", 1, true, between(1, 1), nothing, full},
	} {
		w := sender(t, x.kind, x.size, "", "b ( x + 1 )", x.deaf)
		behind, sent := one(xy(), x.behind, 1), sentAs(1, 3, 6)
		if x.behind == nothing {
			behind, sent = trans.None(w.S, 0), unsent
		}
		wantStep(t, w, 0, 0, one(xy(), x.count, 1), behind, sent, x.kinds...)
	}
}

func TestP14_1_SendValues(t *testing.T) {
	for _, x := range []struct {
		send  string
		sent  trans.Sent
		kinds []int
	}{
		{"a ( 7 )", sentAs(0, 7, 7), nil},
		{"b ( y )", sentAs(1, -1, 3), nil},
		{"a ( x * y )", sentAs(0, -5, 15), nil},
		{"a ( 7 / y )", sentAs(0, -7, 7), []int{api.DivZero}},
		{"a ( x + 2147483643 )", sentAs(0, most-2, most), []int{api.Overflow}},
		{"b ( x + 2147483643 + 1 / y )", sentAs(1, most-3, most), []int{api.Overflow, api.DivZero}},
		{"b ( 1 / 0 )", unsent, []int{api.DivZero}},
		{"b ( 2147483647 + x )", unsent, []int{api.Overflow}},
	} {
		for _, kind := range []string{"block", "drop", "lossy"} {
			w := sender(t, kind, 2, "", x.send, true)
			// What was wrong with a number tells nothing of the variables.
			behind := one(xy(), between(1, 1), 1)
			if x.sent == unsent {
				behind = trans.None(w.S, 0)
			}
			wantStep(t, w, 0, 0, one(xy(), between(0, 0), 1), behind, x.sent, x.kinds...)
		}
	}
}

func TestP14_1_SendRules(t *testing.T) {
	broken := []int{api.BrokenRule}
	for _, x := range []struct {
		moves         string
		tag           string
		ahead, behind rule.Set
		kinds         []int
	}{
		{"", "a", 1, 1, nil},
		{"0 a 1 ; 1 b 0 ;", "a", 1, 2, nil},
		{"0 a 1 ; 1 b 0 ;", "b", 2, 1, nil},
		{"0 a 1 ; 1 b 0 ;", "b", 3, 1, broken},
		{"0 a 1 ; 1 b 0 ;", "b", 1, 0, broken},
		{"0 a 1 ; 1 a 1 ;", "a", 3, 2, nil},
		{"0 a 1 ; 1 a 7 ;", "a", 3, 130, nil},
		{"0 a 0 ; 0 b 0 ;", "b", 1, 1, nil},
	} {
		for _, kind := range []string{"block", "drop", "lossy"} {
			w := sender(t, kind, 2, x.moves, x.tag+" ( 4 )", false)
			behind, sent := one(xy(), between(1, 1), x.behind), sentAs(int(x.tag[0]-'a'), 4, 4)
			if x.behind == 0 {
				behind, sent = trans.None(w.S, 0), unsent
			}
			wantStep(t, w, 0, 0, one(xy(), between(0, 0), x.ahead), behind, sent, x.kinds...)
		}
	}
	// Without a rule there are no states to run out of.
	w := sender(t, "drop", 2, "", "a ( 4 )", false)
	wantStep(t, w, 0, 0, one(xy(), between(0, 0), 0), one(xy(), between(1, 1), 0), sentAs(0, 4, 4))
	// A rule without moves breaks at each message.
	w = sender(t, "lossy", 2, " ", "a ( 4 )", false)
	wantStep(t, w, 0, 0, one(xy(), between(0, 0), 1), trans.None(w.S, 0), unsent, api.BrokenRule)
}

// What is looked for first hides the rest where nothing goes on.
func TestP14_1_SendOrder(t *testing.T) {
	const never, always, half = "0 b 0 ;", "0 a 0 ;", "0 a 1 ; 1 b 1 ;"
	for _, x := range []struct {
		kind, moves, number string
		deaf                bool
		count               itv.Itv
		states              rule.Set
		goesOn              bool
		kinds               []int
	}{
		{"block", never, "1 / 0", true, between(2, 3), 1, false, nil},
		{"block", never, "1 / 0", false, between(2, 3), 1, false, []int{api.DivZero}},
		{"block", never, "1 / 0", true, between(1, 3), 1, false, []int{api.DivZero}},
		{"block", never, "1 / y", true, between(1, 3), 1, false, []int{api.DivZero, api.BrokenRule}},
		{"block", half, "1 / y", true, between(1, 3), 3, true, []int{api.DivZero, api.BrokenRule}},
		{"drop", never, "1 / 0", true, between(2, 3), 1, false, []int{api.DivZero}},
		{"drop", never, "1 / 0", false, between(2, 3), 1, false, []int{api.DivZero}},
		{"drop", never, "1 / y", true, between(2, 3), 1, false, []int{api.DivZero, api.BrokenRule}},
		{"drop", never, "1 / y", false, between(2, 3), 1, false, []int{api.DivZero, api.BrokenRule}},
		{"drop", always, "1 / y", true, between(2, 3), 1, false, []int{api.DivZero, api.FullChannel}},
		{"drop", half, "1 / y", true, between(2, 3), 3, false, []int{api.DivZero, api.FullChannel, api.BrokenRule}},
		{"drop", half, "1 / y", true, between(1, 3), 3, true, []int{api.DivZero, api.FullChannel, api.BrokenRule}},
		{"drop", half, "x + 2147483643 + 1 / y", false, between(2, 3), 3, true, []int{api.Overflow, api.DivZero, api.FullChannel, api.BrokenRule}},
		{"lossy", half, "1 / y", true, between(2, 3), 3, true, []int{api.DivZero, api.BrokenRule}},
		{"lossy", never, "1", true, between(2, 3), 1, false, []int{api.BrokenRule}},
	} {
		w := sender(t, x.kind, 2, x.moves, "a ( "+x.number+" )", x.deaf)
		got, sent, kinds := trans.Step(w, 0, 0, one(xy(), x.count, x.states))
		if trans.Empty(got) == x.goesOn || (sent == unsent) == x.goesOn || !same(kinds, x.kinds) {
			t.Error(x, got, sent, kinds)
		}
		if !x.goesOn {
			want(t, "Step", got, trans.None(w.S, 0))
		}
	}
}

// Of two channels the one that is sent on changes, and the other one doesn't.
func TestP14_1_SendLeavesTheRest(t *testing.T) {
	s := system(t, "chan c block 2 from p to q { a } ; chan d drop 3 from p to q { a , b } ; chan e lossy 1 from p to q { a } ; rule d { 0 b 1 ; } proc p { send d . b ( 9 ) ; } proc q { }")
	a := trans.State{N: num.Zeros(0), Counts: []itv.Itv{between(0, 2), between(1, 1), between(1, 2)}, Rules: []rule.Set{1, 1, 1}}
	b := trans.State{N: num.Zeros(0), Counts: []itv.Itv{between(0, 2), between(2, 2), between(1, 2)}, Rules: []rule.Set{1, 2, 1}}
	wantStep(t, world(s), 0, edgeOf(t, s, 0, flow.Send), a, b, trans.Sent{Chan: 1, Tag: 1, Vals: between(9, 9)})
}

// Who is deaf is what the world says of it.
func TestP14_1_DeafIsWhatTheWorldSays(t *testing.T) {
	for _, deaf := range []bool{false, true} {
		w := sender(t, "block", 2, "", "a ( 4 )", !deaf)
		w.Deaf[0] = deaf
		got, _, _ := trans.Step(w, 0, 0, one(xy(), between(2, 2), 1))
		if trans.Empty(got) != deaf {
			t.Error(deaf, got)
		}
	}
}
