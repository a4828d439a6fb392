package step_test

import (
	"fmt"
	"slices"
	"testing"

	"jetsam/api"
	"jetsam/ast"
	"jetsam/check"
	"jetsam/conf"
	"jetsam/flow"
	"jetsam/step"
)

// stepCase: of a system's start as ahead made it, a pick does what behind tells.
type stepCase struct {
	what, text string
	ahead      func(c *conf.Conf)
	pick       step.Pick
	behind     func(c *conf.Conf)
	done       step.Done
}

func asItWas(c *conf.Conf) {}

func to(node int) func(c *conf.Conf) {
	return func(c *conf.Conf) { c.At[0] = node }
}

func vars(list ...int) func(c *conf.Conf) {
	return func(c *conf.Conf) { c.Vars[0] = list }
}

func toVars(node int, list ...int) func(c *conf.Conf) {
	return func(c *conf.Conf) { c.At[0], c.Vars[0] = node, list }
}

const (
	// choice: nodes 2 (behind the input), 3 and 4 (edges 1 and 3 lead there).
	choice = "proc p { var x ; input x ; if ( 6 / x > 1 ) { } else { x = 1 ; } }"
	// loop: node 2 is its head, node 3 is in it (edge 1), 1 behind it (edge 2).
	loop = "proc p { var x ; input x ; while ( x + 1 < 5 ) { x = 9 ; } }"
	// claim: nodes 2 and 1.
	claim = "proc p { var x ; input x ; assert ( x * x != x + 2 ) ; }"
)

func ownCases() []stepCase {
	one := step.Pick{}
	return []stepCase{
		{"skip", "proc p { }", asItWas, one, to(1), moved()},
		{"skip in a block", choice, toVars(3, 4), one, toVars(1, 4), moved()},
		{"end", "proc p { }", to(1), one, asItWas, step.Done{}},
		{"assign", "proc p { var x ; var y ; y = x + 2 ; }", vars(5, 6), one, toVars(1, 5, 7), moved()},
		{"assign by itself", "proc p { var x ; x = x * x ; }", vars(-5), one, toVars(1, 25), moved()},
		{"assign of too much", "proc p { var x ; var y ; y = x + 1 ; }", vars(most, 6), one, asItWas, fault(api.Overflow, 0, 0)},
		{"assign of the most", "proc p { var x ; var y ; y = x + 1 ; }", vars(most-1, 6), one, toVars(1, most-1, most), moved()},
		{"assign of a part of nought", "proc p { var x ; input x ; x = 1 % x ; }", to(2), one, asItWas, fault(api.DivZero, 0, 1)},
		{"choice that holds", choice, toVars(2, 3), one, toVars(3, 3), moved()},
		{"choice that doesn't hold", choice, toVars(2, 4), one, toVars(4, 4), moved()},
		{"choice of nought", choice, toVars(2, 0), one, asItWas, fault(api.DivZero, 0, 1)},
		{"loop that goes on", loop, toVars(2, 3), one, toVars(3, 3), moved()},
		{"loop that ends", loop, toVars(2, 4), one, toVars(1, 4), moved()},
		{"loop of too much", loop, toVars(2, most), one, asItWas, fault(api.Overflow, 0, 1)},
		{"back to the head", loop, toVars(3, 3), one, toVars(2, 9), moved()},
		{"assert that holds", claim, toVars(2, 3), one, toVars(1, 3), moved()},
		{"assert that fails", claim, toVars(2, 2), one, asItWas, fault(api.FailedAssert, 0, 1)},
		{"assert of too much", claim, toVars(2, most), one, asItWas, fault(api.Overflow, 0, 1)},
		{"assert of too much on the right", "proc p { var x ; assert ( x <= x + 1 ) ; }", vars(most), one, asItWas, fault(api.Overflow, 0, 0)},
		{"assert of two errors", "proc p { var x ; assert ( 1 / x == 2147483647 + 1 ) ; }", asItWas, one, asItWas, fault(api.DivZero, 0, 0)},
		{"nobody", "proc p { var x ; x = 1 ; }", asItWas, step.Pick{Proc: 1}, asItWas, step.Done{}},
		{"nobody, below", "proc p { var x ; x = 1 / 0 ; }", asItWas, step.Pick{Proc: -1}, asItWas, step.Done{}},
		{"nobody, far above", "proc p { var x ; x = 1 ; }", asItWas, step.Pick{Proc: 1 << 32}, asItWas, step.Done{}},
		{"nobody, far below", "proc p { var x ; x = 1 ; }", asItWas, step.Pick{Proc: -1 << 63}, asItWas, step.Done{}},
		{"lost and given, of no matter", "proc p { var x ; x = 1 ; }", asItWas, step.Pick{Lose: true, Input: 7}, toVars(1, 1), moved()},
	}
}

// Of what is given, the last 32 bits are taken.
func inputCases() []stepCase {
	var list []stepCase
	for given, want := range map[int]int{
		0: 0, 5: 5, -5: -5, most: most, least: least, most + 1: least, least - 1: most,
		1 << 32: 0, 1<<32 + 5: 5, 1<<32 - 1: -1, -1 << 32: 0, -1<<32 - 1: -1, 1<<63 - 1: -1, -1 << 63: 0, 0x123456789abcdef: -0x76543211,
	} {
		list = append(list, stepCase{fmt.Sprint("input of ", given), "proc p { var x ; var y ; input y ; }",
			vars(8, 9), step.Pick{Input: given}, toVars(1, 8, want), moved()})
	}
	return list
}

// twoText: q is at node 2 behind its input; edges 1 and 3 are its receives (of
// b and a) and lead to nodes 3 and 4. Tags k and l are none of them.
const twoText = `chan d drop 9 from p to q { a , b } ; chan c block 3 from p to q { a , b , k , l } ; rule c { 0 a 1 ; 1 a 1 ; }
proc p { send c . k ( 1 ) ; } proc q { var x ; var y ; input x ; recv c { b ( y ) { } a ( x ) { } } }`

func inQueue(list ...conf.Msg) func(c *conf.Conf) {
	return func(c *conf.Conf) {
		c.At[1], c.Vars[1] = 2, []int{70, 80}
		c.Queues, c.States = [][]conf.Msg{{{Tag: 1, Val: 99}}, list}, []int{0, 1}
	}
}

func received(node, x, y int, left ...conf.Msg) func(c *conf.Conf) {
	return func(c *conf.Conf) { c.At[1], c.Vars[1], c.Queues[1] = node, []int{x, y}, left }
}

func receiveCases() []stepCase {
	a, b, k := conf.Msg{Tag: 0, Val: 5}, conf.Msg{Tag: 1, Val: least}, conf.Msg{Tag: 2, Val: 7}
	q := step.Pick{Proc: 1}
	return []stepCase{
		{"recv of nothing", twoText, inQueue(), q, asItWas, step.Done{}},
		{"recv of the second arm", twoText, inQueue(a), q, received(4, 5, 80), moved()},
		{"recv of the first arm", twoText, inQueue(b), q, received(3, 70, least), moved()},
		{"recv of the oldest", twoText, inQueue(a, b, a), q, received(4, 5, 80, b, a), moved()},
		{"recv of the oldest of the first arm", twoText, inQueue(b, k, a), q, received(3, 70, least, k, a), moved()},
		{"recv of no arm", twoText, inQueue(k, a), q, asItWas, fault(api.WrongTag, 1, 1)},
		{"recv of no arm, lost and given", twoText, inQueue(k), step.Pick{Proc: 1, Lose: true, Input: 3}, asItWas, fault(api.WrongTag, 1, 1)},
		{"recv of an arm, with another one behind", twoText, inQueue(a, k), q, received(4, 5, 80, k), moved()},
	}
}

func checkStep(t *testing.T, x stepCase) {
	t.Helper()
	s := system(t, x.text)
	ahead, err := conf.Start(s)
	if err != api.OK {
		t.Fatal(x.what, err)
	}
	x.ahead(&ahead)
	if !conf.Right(s, ahead) {
		t.Fatal(x.what, ahead)
	}
	want := conf.Copy(ahead)
	x.behind(&want)
	c, done, err := step.Step(s, ahead, x.pick)
	if err != api.OK || done != x.done || !same(c, want) {
		t.Errorf("%s: %v %v %d, want %v %v", x.what, c, done, err, want, x.done)
	}
}

func TestP7_1_Step(t *testing.T) {
	for _, x := range slices.Concat(ownCases(), inputCases(), receiveCases()) {
		checkStep(t, x)
	}
}

// The first of two assumes is the one that stands first, whatever it asks.
func TestP7_1_StepByTheAssumesOrder(t *testing.T) {
	c := comparison(t, "a != 0")
	other := c
	other.Op = flow.Not(c.Op)
	s := flow.Sys{Vars: []int{2}, Graphs: []flow.Graph{{Nodes: 4, Edges: []flow.Edge{
		{From: 3, To: 1}, {From: 0, To: 3, Kind: flow.Assume, C: other}, {From: 2, To: 1}, {From: 0, To: 2, Kind: flow.Assume, C: c},
	}}}}
	for a, want := range map[int]int{0: 3, 1: 2} {
		got, done, err := step.Step(s, conf.Conf{At: []int{0}, Vars: [][]int{{a, 0}}}, step.Pick{})
		if err != api.OK || done != moved() || got.At[0] != want {
			t.Error(a, got, done, err)
		}
	}
}

// sendCase is what matters to a send: the channel's kind, whether it is full,
// whether its rule (0: none) lets it (1), or not (2), what is sent, and whether
// it is lost.
type sendCase struct {
	kind, size, rule int
	full, lose, bad  bool
}

// want tells as words what is done.
func (x sendCase) want() string {
	switch {
	case x.full && x.kind == api.Block:
		return "waits"
	case x.bad:
		return "divides"
	case x.rule == 2:
		return "breaks"
	case x.full && x.kind == api.Drop:
		return "is full"
	case x.kind == api.Lossy && (x.full || x.lose):
		return "loses"
	}
	return "sends"
}

func (x sendCase) system(t *testing.T) flow.Sys {
	rule := []string{"", "rule c { 1 b 3 ; 1 a 2 ; 3 b 2 ; }", "rule c { 1 a 3 ; 0 b 3 ; 3 b 2 ; }"}[x.rule]
	return system(t, fmt.Sprintf(`chan d block 2 from q to p { a } ; chan c %s %d from q to p { a , b } ; %s
proc p { } proc q { var x ; var y ; y = 1 ; send c . b ( 6 / x ) ; }`, []string{"block", "drop", "lossy"}[x.kind], x.size, rule))
}

func TestP7_1_StepOfSend(t *testing.T) {
	told := map[string]int{}
	for n := range 3 * 2 * 3 * 8 {
		x := sendCase{kind: n % 3, size: []int{1, 16}[n/3%2], rule: n / 6 % 3, full: n/18%2 == 1, lose: n/36%2 == 1, bad: n/72 == 1}
		told[x.want()]++
		checkSend(t, x)
	}
	if len(told) != 6 {
		t.Error(told)
	}
}

func checkSend(t *testing.T, x sendCase) {
	t.Helper()
	s := x.system(t)
	ahead, _ := conf.Start(s)
	ahead.At[1], ahead.Vars[1] = 2, []int{-3, 8}
	if x.bad {
		ahead.Vars[1][0] = 0
	}
	ahead.Queues[1] = messages(x.size - 1)
	if x.full {
		ahead.Queues[1] = messages(x.size)
	}
	if x.rule > 0 {
		ahead.States[1] = 1
	}
	want, wantDone := conf.Copy(ahead), moved()
	switch x.want() {
	case "waits":
		wantDone = step.Done{}
	case "divides":
		wantDone = fault(api.DivZero, 1, 1)
	case "breaks":
		wantDone = fault(api.BrokenRule, 1, 1)
	case "is full":
		wantDone = fault(api.FullChannel, 1, 1)
	case "sends":
		want.Queues[1] = append(want.Queues[1], conf.Msg{Tag: 1, Val: -2})
	}
	if wantDone.Moved {
		want.At[1] = 1
		want.States[1] = []int{0, 3}[x.rule]
	}
	c, done, err := step.Step(s, ahead, step.Pick{Proc: 1, Lose: x.lose, Input: 5})
	if err != api.OK || done != wantDone || !same(c, want) {
		t.Errorf("%+v: %v %v %d, want %v %v", x, c, done, err, want, wantDone)
	}
}

func TestP7_1_StepOfWhatIsntRight(t *testing.T) {
	good, right := system(t, twoText), func() conf.Conf {
		c, _ := conf.Start(system(t, twoText))
		inQueue(conf.Msg{Tag: 0, Val: 5})(&c)
		return c
	}
	want := func(what string, s flow.Sys, c conf.Conf, err api.Errno) {
		for _, p := range []step.Pick{{}, {Proc: 1}, {Proc: -1}, {Proc: 9, Lose: true, Input: 1}} {
			got, done, e := step.Step(s, c, p)
			if e != err || err != api.OK && (done != step.Done{} || !same(got, conf.Conf{})) {
				t.Error(what, p, got, done, e)
			}
		}
	}
	want("nothing", good, right(), api.OK)
	for what, put := range map[string]func(c *conf.Conf){
		"all gone":      func(c *conf.Conf) { *c = conf.Conf{} },
		"node":          func(c *conf.Conf) { c.At[0] = 2 },
		"node below":    func(c *conf.Conf) { c.At[1] = -1 },
		"fewer nodes":   func(c *conf.Conf) { c.At = c.At[:1] },
		"fewer numbers": func(c *conf.Conf) { c.Vars[1] = c.Vars[1][:1] },
		"great number":  func(c *conf.Conf) { c.Vars[1][0] = most + 1 },
		"tag":           func(c *conf.Conf) { c.Queues[1][0].Tag = 4 },
		"messages":      func(c *conf.Conf) { c.Queues[1] = messages(4) },
		"great message": func(c *conf.Conf) { c.Queues[1][0].Val = least - 1 },
		"no queues":     func(c *conf.Conf) { c.Queues = nil },
		"state":         func(c *conf.Conf) { c.States[1] = 2 },
		"state of none": func(c *conf.Conf) { c.States[0] = 1 },
	} {
		c := right()
		put(&c)
		want(what, good, c, api.ErrArg)
	}
	for what, put := range wrongs() {
		s := system(t, twoText)
		put(&s)
		want(what, s, right(), api.ErrArg)
		if all, done, err := step.Run(s, []step.Pick{{}}); err != api.ErrArg || len(all) != 0 || done != (step.Done{}) {
			t.Error(what, all, done, err)
		}
	}
	want("neither", flow.Sys{}, conf.Conf{}, api.ErrArg)
}

// wrongs are changes by which a system isn't flow.Right any more.
func wrongs() map[string]func(s *flow.Sys) {
	return map[string]func(s *flow.Sys){
		"no system":        func(s *flow.Sys) { *s = flow.Sys{} },
		"fewer counts":     func(s *flow.Sys) { s.Vars = s.Vars[:1] },
		"fewer variables":  func(s *flow.Sys) { s.Vars[1] = 1 },
		"no room":          func(s *flow.Sys) { s.Chans[0].Size = 0 },
		"a rule's move":    func(s *flow.Sys) { s.Chans[1].Rule[0][0] = 5 },
		"no edges":         func(s *flow.Sys) { s.Graphs[0].Edges = nil },
		"an edge's tag":    func(s *flow.Sys) { s.Graphs[0].Edges[0].Tag = 4 },
		"an edge's target": func(s *flow.Sys) { s.Graphs[1].Edges[1].To = 9 },
		"a number":         func(s *flow.Sys) { s.Graphs[0].Edges[0].E = check.Expr{Kind: ast.Num, Num: -1} },
		"a way round":      func(s *flow.Sys) { s.Graphs[1].Edges[0].To = 0 },
	}
}
