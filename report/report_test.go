package report_test

import (
	"math"
	"strings"
	"testing"

	"jetsam/api"
	"jetsam/fix"
	"jetsam/itv"
	"jetsam/num"
	"jetsam/outer"
	"jetsam/queue"
	"jetsam/report"
	"jetsam/rule"
	"jetsam/trans"
)

func TestP17_1_Itv(t *testing.T) {
	for a, want := range map[itv.Itv]string{
		// As the chapter's examples have it.
		only(3): "3", empty: "none", between(-2, 7): "-2 to 7",
		only(0): "0", only(-1): "-1", only(10): "10", only(least): "-2147483648", only(most): "2147483647",
		between(0, 1): "0 to 1", between(-9, -8): "-9 to -8", between(-1, 0): "-1 to 0", between(-100, 2000): "-100 to 2000",
		// All alone is any.
		itv.All(): "any", between(least, most-1): "-2147483648 to 2147483646", between(least+1, most): "-2147483647 to 2147483647",
		between(0, most): "0 to 2147483647", between(least, 0): "-2147483648 to 0",
		// What is empty reads alike in all forms.
		between(0, -1): "none", between(7, -2): "none", between(most, least): "none", between(math.MaxInt, math.MinInt): "none",
		// Beyond all numbers that a variable may be.
		between(least-1, most): "-2147483649 to 2147483647", between(least, most+1): "-2147483648 to 2147483648", only(most + 1): "2147483648",
		only(math.MinInt): "-9223372036854775808", only(math.MaxInt): "9223372036854775807",
		between(math.MinInt, math.MaxInt): "-9223372036854775808 to 9223372036854775807",
	} {
		if got := report.Itv(a); got != want {
			t.Errorf("%v: %q, want %q", a, got, want)
		}
	}
}

func TestP17_1_Alarm(t *testing.T) {
	for a, want := range map[fix.Alarm]string{
		alarm(0, 0, api.FailedAssert): "failed assertion at process 0 edge 0",
		alarm(1, 2, api.Overflow):     "overflow at process 1 edge 2",
		alarm(3, 399, api.DivZero):    "division by zero at process 3 edge 399",
		alarm(2, 10, api.FullChannel): "full channel at process 2 edge 10",
		alarm(0, 7, api.WrongTag):     "wrong tag at process 0 edge 7",
		alarm(1, 0, api.BrokenRule):   "broken rule at process 1 edge 0",
		// Of other kinds, and where nothing is.
		alarm(0, 1, 0): "error at process 0 edge 1", alarm(2, 3, 7): "error at process 2 edge 3",
		alarm(-1, -20, -1): "error at process -1 edge -20", alarm(4, 400, math.MaxInt): "error at process 4 edge 400",
		alarm(0, 0, 1+1<<32): "error at process 0 edge 0", alarm(0, 0, math.MinInt): "error at process 0 edge 0",
		alarm(math.MinInt, math.MaxInt, 1): "failed assertion at process -9223372036854775808 edge 9223372036854775807",
	} {
		if got := report.Alarm(a); got != want {
			t.Errorf("%v: %q, want %q", a, got, want)
		}
	}
}

func wantLines(t *testing.T, r outer.Result, want ...string) {
	t.Helper()
	if got := report.Text(r); got != strings.Join(want, "\n")+"\n" {
		t.Errorf("of %v:\n%swant\n%s", r, got, strings.Join(want, "\n"))
	}
}

func TestP17_1_TextOfNothing(t *testing.T) {
	wantLines(t, outer.Result{}, "steps 0", "no alarm")
	none := outer.Result{At: [][]trans.State{}, Elems: []queue.Elem{}, Alarms: []fix.Alarm{}, Steps: 12}
	wantLines(t, none, "steps 12", "no alarm")
	wantLines(t, outer.Result{Steps: -3}, "steps -3", "no alarm")
	wantLines(t, outer.Result{At: [][]trans.State{nil, {}}}, "steps 0", "process 0", "process 1", "no alarm")
}

func TestP17_1_TextOfNodes(t *testing.T) {
	lost := node(only(1), only(2))
	lost.N.None = true
	counted := node(only(5))
	counted.Counts, counted.Rules = []itv.Itv{only(17)}, []rule.Set{129}
	r := outer.Result{Steps: 1, At: [][]trans.State{
		{node(), node(only(0)), node(only(0), between(-2, 7), itv.All()), node(empty, only(4))},
		{never(0), never(3), lost, {N: num.Num{None: true}}, {N: num.Zeros(2)}, counted},
		{node(only(1), only(2), only(3), only(4), only(5), only(6), only(7))},
	}}
	wantLines(t, r, "steps 1",
		"process 0", "node 0: nothing", "node 1: 0", "node 2: 0, -2 to 7, any", "node 3: none, 4",
		"process 1", "node 0: never", "node 1: never", "node 2: never", "node 3: never", "node 4: 0, 0", "node 5: 5",
		"process 2", "node 0: 1, 2, 3, 4, 5, 6, 7",
		"no alarm")
}

func TestP17_1_TextOfChannels(t *testing.T) {
	r := outer.Result{Elems: []queue.Elem{
		// As the chapter's example has it.
		elem(between(0, 2), empty, only(3)),
		elem(only(0), empty),
		elem(only(1), only(0)),
		elem(between(0, 16), itv.All(), between(-1, 1), between(9, 2), only(-4)),
		elem(empty),
		elem(itv.All(), empty, only(most), empty, empty, between(most, most+1)),
		// What is told of a tag doesn't hang on the count.
		elem(only(0), only(8)),
	}}
	wantLines(t, r, "steps 0",
		"channel 0: 0 to 2 messages, tag 1: 3",
		"channel 1: 0 messages",
		"channel 2: 1 messages, tag 0: 0",
		"channel 3: 0 to 16 messages, tag 0: any, tag 1: -1 to 1, tag 3: -4",
		"channel 4: none messages",
		"channel 5: any messages, tag 1: 2147483647, tag 4: 2147483647 to 2147483648",
		"channel 6: 0 messages, tag 0: 8",
		"no alarm")
}

func TestP17_1_TextOfAlarms(t *testing.T) {
	wantLines(t, outer.Result{Alarms: []fix.Alarm{alarm(0, 1, api.Overflow)}}, "steps 0", "overflow at process 0 edge 1", "1 alarms")
	// In the order in which they are handed in, each as often as it is there.
	r := outer.Result{Alarms: []fix.Alarm{alarm(2, 5, api.WrongTag), alarm(0, 1, api.DivZero), alarm(2, 5, api.WrongTag), {}}}
	wantLines(t, r, "steps 0", "wrong tag at process 2 edge 5", "division by zero at process 0 edge 1", "wrong tag at process 2 edge 5", "error at process 0 edge 0", "4 alarms")
	if got := report.Text(outer.Result{Alarms: make([]fix.Alarm, 1234)}); !strings.HasSuffix(got, "\n1234 alarms\n") || strings.Count(got, "\n") != 1236 {
		t.Error(len(got))
	}
}

func TestP17_1_TextOfWholeResults(t *testing.T) {
	wantLines(t, analyzed(t, system(t, "proc p { }")), "steps 2", "process 0", "node 0: nothing", "node 1: nothing", "no alarm")
	wantLines(t, analyzed(t, system(t, "proc p { var x ; x = 3 ; assert ( x == 3 ) ; }")),
		"steps 6", "process 0", "node 0: 0", "node 1: 3", "node 2: 3", "no alarm")
	handed := "chan c block 1 from p to q { a } ; proc p { var x ; x = 1 + 2 ; send c . a ( x ) ; } proc q { var y ; recv c { a ( y ) { assert ( y == 3 ) ; } } }"
	wantLines(t, analyzed(t, system(t, handed)), "steps 22",
		"process 0", "node 0: 0", "node 1: 3", "node 2: 3",
		"process 1", "node 0: 0", "node 1: 3", "node 2: 3",
		"channel 0: 0 to 1 messages, tag 0: 3", "no alarm")
	wantLines(t, analyzed(t, system(t, strings.ReplaceAll(handed, "y == 3", "y == 4"))), "steps 20",
		"process 0", "node 0: 0", "node 1: 3", "node 2: 3",
		"process 1", "node 0: 0", "node 1: never", "node 2: 3",
		"channel 0: 0 to 1 messages, tag 0: 3", "failed assertion at process 1 edge 1", "1 alarms")
	wantLines(t, analyzed(t, system(t, "chan c drop 1 from p to q { a , b } ; proc p { var x ; var y ; input x ; send c . b ( x ) ; y = 7 / x ; send c . b ( y ) ; } proc q { }")),
		"steps 20",
		"process 0", "node 0: 0, 0", "node 1: never", "node 2: any, 0", "node 3: any, 0", "node 4: any, -7 to 7",
		"process 1", "node 0: nothing", "node 1: nothing",
		"channel 0: 0 to 1 messages, tag 1: any",
		"division by zero at process 0 edge 2", "full channel at process 0 edge 3", "2 alarms")
}
