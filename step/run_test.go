package step_test

import (
	"slices"
	"testing"

	"jetsam/api"
	"jetsam/ast"
	"jetsam/check"
	"jetsam/conf"
	"jetsam/flow"
	"jetsam/step"
)

// picks makes a script of a text, a sign for each: the process, and whether what
// it sends is lost (a to d); the place of the sign is given.
func picks(text string) []step.Pick {
	var list []step.Pick
	for i, r := range text {
		if r >= 'a' {
			list = append(list, step.Pick{Proc: int(r - 'a'), Lose: true, Input: i})
		} else {
			list = append(list, step.Pick{Proc: int(r - '0'), Input: i})
		}
	}
	return list
}

const pairText = `chan c block 1 from p to q { a } ;
proc p { var i ; while ( i < 3 ) { send c . a ( i * i ) ; i = i + 1 ; } }
proc q { var x ; var y ; while ( 0 == 0 ) { recv c { a ( x ) { y = y + x ; assert ( y < 5 ) ; } } } }`

func TestP7_1_Run(t *testing.T) {
	s := system(t, pairText)
	all, done, err := step.Run(s, picks("11"+"000000"+"1"+"000"+"1111"+"0"+"1111"+"0"+"1"+"00"+"1"+"0101"))
	if err != api.OK || done != fault(api.FailedAssert, 1, 4) || len(all) != 26 {
		t.Fatal(len(all), done, err)
	}
	// q waits for a message, p for room, and at last p is at its end.
	var waits []int
	for i := range len(all) - 1 {
		if same(all[i], all[i+1]) {
			waits = append(waits, i)
		}
	}
	if !slices.Equal(waits, []int{1, 6, 7, 24}) {
		t.Error(waits)
	}
	want := conf.Conf{At: []int{1, 4}, Vars: [][]int{{3}, {4, 5}}, Queues: [][]conf.Msg{nil}, States: []int{0}}
	if last := all[25]; !same(last, want) {
		t.Error(last)
	}
}

func TestP7_1_RunOfNothing(t *testing.T) {
	for _, text := range []string{pairText, twoText, "proc p { }"} {
		s := system(t, text)
		start, _ := conf.Start(s)
		for _, script := range [][]step.Pick{nil, {}} {
			all, done, err := step.Run(s, script)
			if err != api.OK || done != (step.Done{}) || len(all) != 1 || !same(all[0], start) {
				t.Error(text, all, done, err)
			}
		}
	}
	all, done, err := step.Run(flow.Sys{}, nil)
	if err != api.ErrArg || done != (step.Done{}) || len(all) != 0 {
		t.Error(all, done, err)
	}
}

// With the error all ends, and what would be done behind it doesn't matter.
func TestP7_1_RunTillAnError(t *testing.T) {
	s := system(t, "proc p { var x ; x = 1 ; x = x / 0 ; } proc q { var y ; y = 1 ; assert ( y == 2 ) ; }")
	for script, want := range map[string]struct {
		done  step.Done
		confs int
	}{
		"0":      {step.Done{}, 2},
		"01":     {step.Done{}, 3},
		"00":     {fault(api.DivZero, 0, 1), 2},
		"0000":   {fault(api.DivZero, 0, 1), 2},
		"0011":   {fault(api.DivZero, 0, 1), 2},
		"11":     {fault(api.FailedAssert, 1, 1), 2},
		"0110":   {fault(api.FailedAssert, 1, 1), 3},
		"1010":   {fault(api.FailedAssert, 1, 1), 3},
		"9199z1": {fault(api.FailedAssert, 1, 1), 6},
		"239z":   {step.Done{}, 5},
	} {
		all, done, err := step.Run(s, picks(script))
		if err != api.OK || done != want.done || len(all) != want.confs {
			t.Error(script, all, done, err)
		}
	}
}

// Both wait for each other: that is no error, and nothing is done any more.
func TestP7_1_RunOfWaiting(t *testing.T) {
	s := system(t, `chan c block 1 from p to q { a } ; chan d block 1 from q to p { a } ;
proc p { var x ; recv d { a ( x ) { } } send c . a ( 1 ) ; } proc q { var x ; recv c { a ( x ) { } } send d . a ( 1 ) ; }`)
	all, done, err := step.Run(s, picks("0101ab0011"))
	if err != api.OK || done != (step.Done{}) || len(all) != 11 {
		t.Fatal(all, done, err)
	}
	for _, c := range all {
		if !same(c, all[0]) {
			t.Error(c)
		}
	}
}

// A Lossy channel of one: what is too much is lost, and what a pick loses, but
// the rule's state goes on.
func TestP7_1_RunOfLossy(t *testing.T) {
	const ahead = "chan c lossy 1 from p to q { a , b } ; rule c { 0 a 1 ; 1 b 2 ; 2 a 3 ; } proc q { } proc p { "
	s := system(t, ahead+"send c . a ( 5 ) ; send c . b ( 6 ) ; send c . a ( 7 ) ; send c . b ( 8 ) ; }")
	for script, want := range map[string][]string{
		"1111": {"[] 0", "[{0 5}] 1", "[{0 5}] 2", "[{0 5}] 3"},
		"b111": {"[] 0", "[] 1", "[{1 6}] 2", "[{1 6}] 3"},
		"bb11": {"[] 0", "[] 1", "[] 2", "[{0 7}] 3"},
		"bbbb": {"[] 0", "[] 1", "[] 2", "[] 3"},
	} {
		all, done, err := step.Run(s, picks(script))
		if err != api.OK || done != fault(api.BrokenRule, 1, 3) || len(all) != len(want) {
			t.Error(script, all, done, err)
			continue
		}
		for i, c := range all {
			if got := printed(c); got != want[i] {
				t.Error(script, i, got, want[i])
			}
		}
	}
}

// Run tells what Step tells, one by one.
func TestP7_1_RunIsStepByStep(t *testing.T) {
	s := system(t, pairText)
	script := picks("0110abbba0101010110100110101010101101010101010011001")
	all, done, err := step.Run(s, script)
	if err != api.OK || len(all) < 20 {
		t.Fatal(all, done, err)
	}
	c, _ := conf.Start(s)
	for i, want := range all {
		if !same(c, want) {
			t.Fatal(i, c, want)
		}
		if i == len(script) {
			break
		}
		next, now, err := step.Step(s, c, script[i])
		if err != api.OK || (now.Kind != 0) != (i == len(all)-1) || now.Kind != 0 && now != done {
			t.Fatal(i, now, err)
		}
		c = next
	}
}

// A long script: messages go round and round, and all of them come.
func TestP7_1_RunOfManySteps(t *testing.T) {
	s := system(t, `chan c block 16 from p to q { a } ; proc p { var i ; while ( 0 == 0 ) { send c . a ( i ) ; i = i + 1 ; } }
proc q { var x ; var y ; while ( 0 == 0 ) { recv c { a ( x ) { assert ( x == y ) ; y = y + 1 ; } } } }`)
	all, done, err := step.Run(s, slices.Repeat(picks("00010011101"), 2000))
	if err != api.OK || done != (step.Done{}) || len(all) != 22001 || all[22000].Vars[1][1] < 2000 {
		t.Error(len(all), done, err)
	}
}

func TestP1_StepOfTheGreatest(t *testing.T) {
	e := check.Expr{Kind: ast.Var}
	for range 1 << 15 {
		e = check.Expr{Kind: ast.Add, Kids: []check.Expr{e, {Kind: ast.Num, Num: 1}}}
	}
	s := flow.Sys{Vars: []int{1}, Graphs: []flow.Graph{{Nodes: 2, Edges: []flow.Edge{{To: 1, Kind: flow.Assign, E: e}}}}}
	all, done, err := step.Run(s, []step.Pick{{}, {}, {}})
	if err != api.OK || done != (step.Done{}) || len(all) != 4 || all[3].Vars[0][0] != 1<<15 {
		t.Error(all, done, err)
	}
}
