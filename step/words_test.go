package step_test

import (
	"fmt"
	"math/rand"
	"testing"

	"jetsam/api"
	"jetsam/ast"
	"jetsam/check"
	"jetsam/conf"
	"jetsam/flow"
	"jetsam/parse"
	"jetsam/sample"
	"jetsam/step"
)

// teller runs a system by its statements, without graphs: of each process it
// has what is still to be done. A statement of kind 0 does nothing.
type teller struct {
	p      check.Prog
	todo   [][]check.Stmt
	vars   [][]int
	queues [][]conf.Msg
	states []int
}

func newTeller(p check.Prog) *teller {
	r := &teller{p: p, queues: make([][]conf.Msg, len(p.Chans)), states: make([]int, len(p.Chans))}
	for _, proc := range p.Procs {
		r.todo = append(r.todo, ahead(proc.Body, nil))
		r.vars = append(r.vars, make([]int, proc.Vars))
	}
	return r
}

// ahead tells what is to be done with a block ahead of the rest; also an empty
// one takes a step.
func ahead(body, rest []check.Stmt) []check.Stmt {
	if len(body) == 0 {
		body = make([]check.Stmt, 1)
	}
	return append(append([]check.Stmt{}, body...), rest...)
}

// step tells whether something was done, and the kind of an error.
func (r *teller) step(p step.Pick) (bool, int) {
	if p.Proc < 0 || p.Proc >= len(r.todo) || len(r.todo[p.Proc]) == 0 {
		return false, 0
	}
	todo, vars := r.todo[p.Proc], r.vars[p.Proc]
	st, rest := todo[0], todo[1:]
	switch st.Kind {
	case ast.Assign:
		n, kind := inWords(st.E, vars)
		if kind != 0 {
			return false, kind
		}
		vars[st.Var] = int(n.Int64())
	case ast.If, ast.While, ast.Assert:
		return r.compare(p.Proc, st, rest)
	case ast.Send:
		return r.send(p, st, rest)
	case ast.Recv:
		return r.receive(p.Proc, st, rest)
	case ast.Input:
		last := p.Input & 0xffffffff
		if last >= 1<<31 {
			last -= 1 << 32
		}
		vars[st.Var] = last
	}
	r.todo[p.Proc] = rest
	return true, 0
}

func (r *teller) compare(proc int, st check.Stmt, rest []check.Stmt) (bool, int) {
	holds, kind := holdsInWords(st.C, r.vars[proc])
	if kind != 0 {
		return false, kind
	}
	switch {
	case st.Kind == ast.Assert && !holds:
		return false, api.FailedAssert
	case st.Kind == ast.If && holds:
		rest = ahead(st.Body, rest)
	case st.Kind == ast.If:
		rest = ahead(st.Else, rest)
	case st.Kind == ast.While && holds:
		rest = ahead(st.Body, r.todo[proc])
	}
	r.todo[proc] = rest
	return true, 0
}

func (r *teller) send(p step.Pick, st check.Stmt, rest []check.Stmt) (bool, int) {
	c := r.p.Chans[st.Chan]
	room := c.Size - len(r.queues[st.Chan])
	if c.Kind == api.Block && room == 0 {
		return false, 0
	}
	n, kind := inWords(st.E, r.vars[p.Proc])
	if kind != 0 {
		return false, kind
	}
	state := 0
	if len(c.Rule) > 0 {
		state = c.Rule[r.states[st.Chan]][st.Tag]
	}
	if state == -1 {
		return false, api.BrokenRule
	}
	if c.Kind == api.Drop && room == 0 {
		return false, api.FullChannel
	}
	r.states[st.Chan] = state
	lost := c.Kind == api.Lossy && (room == 0 || p.Lose)
	if !lost {
		r.queues[st.Chan] = append(r.queues[st.Chan], conf.Msg{Tag: st.Tag, Val: int(n.Int64())})
	}
	r.todo[p.Proc] = rest
	return true, 0
}

func (r *teller) receive(proc int, st check.Stmt, rest []check.Stmt) (bool, int) {
	queue := r.queues[st.Chan]
	if len(queue) == 0 {
		return false, 0
	}
	for _, arm := range st.Arms {
		if arm.Tag == queue[0].Tag {
			r.vars[proc][arm.Var] = queue[0].Val
			r.queues[st.Chan] = queue[1:]
			r.todo[proc] = ahead(arm.Body, rest)
			return true, 0
		}
	}
	return false, api.WrongTag
}

// edgeKind is that of the edges which a statement becomes.
func edgeKind(kind int) int {
	return map[int]int{ast.Assign: flow.Assign, ast.If: flow.Assume, ast.While: flow.Assume, ast.Send: flow.Send,
		ast.Recv: flow.Recv, ast.Assert: flow.Assert, ast.Input: flow.Input}[kind]
}

func randomPick(random *rand.Rand, procs int) step.Pick {
	p := step.Pick{Proc: random.Intn(procs), Lose: random.Intn(4) == 0, Input: sample.Number(random.Intn)}
	switch random.Intn(20) {
	case 0:
		p.Proc = random.Intn(9) - 4
	case 1:
		p.Input = int(random.Uint64())
	}
	return p
}

// Of systems and scripts of all kinds, Run tells what the statements tell.
func TestP7_1_RunInWords(t *testing.T) {
	random := rand.New(rand.NewSource(72))
	kinds, moves := map[int]int{}, map[int]int{}
	for i := range 4000 {
		s, p := lively(random)
		if i%2 == 1 {
			s, p = talking(t, random)
		}
		var script []step.Pick
		for range 150 {
			script = append(script, randomPick(random, len(s.Graphs)))
		}
		all, done, err := step.Run(s, script)
		if err != api.OK {
			t.Fatal(s, err)
		}
		kinds[done.Kind]++
		compareRun(t, p, s, script, all, done, moves)
	}
	for kind := 0; kind <= api.BrokenRule; kind++ {
		if kinds[kind] < 50 {
			t.Error("too few runs that end with", kind, kinds)
		}
	}
	for kind := flow.Skip; kind <= flow.Input; kind++ {
		if moves[kind] < 1000 {
			t.Error("too few steps of kind", kind, moves)
		}
	}
}

// talking makes a system of two processes that send and receive most of the time.
func talking(t *testing.T, random *rand.Rand) (flow.Sys, check.Prog) {
	t.Helper()
	one := func(list ...string) string { return list[random.Intn(len(list))] }
	channel := func(ends string) string {
		kind, size := one("block", "drop", "lossy"), one("1", "2", "3", "16")
		return fmt.Sprintf("chan %s %s %s from %s { a , b } ; ", ends[:1], kind, size, ends[1:])
	}
	rule := func(name string) string {
		return one("", "", "rule "+name+" { 0 a 0 ; 0 b 1 ; 1 a 1 ; } ", "rule "+name+" { 0 a 1 ; 1 a 0 ; 0 b 2 ; 2 b 0 ; } ")
	}
	body := func(to, from string) string {
		words := "{ var x ; var y ; while ( x == x ) { "
		for range 1 + random.Intn(4) {
			words += one("send "+to+" . a ( x ) ; ", "send "+to+" . b ( y * 2 ) ; ", "input y ; ", "assert ( y != 7 ) ; ",
				"recv "+from+" { b ( y ) { x = y - 1 ; } a ( x ) { } } ", "recv "+from+" { a ( y ) { } } ")
		}
		return words + "} } "
	}
	text := channel("cp to q") + channel("dq to p") + rule("c") + rule("d") + "proc p " + body("c", "d") + "proc q " + body("d", "c")
	tree, _, err := parse.Parse(text)
	p, wrong := check.Check(tree)
	if err != api.OK || wrong != api.OK {
		t.Fatal(text, err, wrong)
	}
	return system(t, text), p
}

// lively makes a system with little room and few tags more often than not, so
// that channels are full, and messages come.
func lively(random *rand.Rand) (flow.Sys, check.Prog) {
	s, p := sample.Sys(random.Intn)
	for i := range p.Chans {
		if random.Intn(3) > 0 {
			p.Chans[i].Size = 1 + random.Intn(2)
			s.Chans[i].Size = p.Chans[i].Size
		}
	}
	return s, p
}

func compareRun(t *testing.T, p check.Prog, s flow.Sys, script []step.Pick, all []conf.Conf, done step.Done, moves map[int]int) {
	t.Helper()
	r := newTeller(p)
	for i, c := range all {
		if !same(c.Vars, r.vars) || !same(c.Queues, r.queues) || !same(c.States, r.states) {
			t.Fatalf("%v, %v: %v behind pick %d, want %v", p, script[:i], c, i, r)
		}
		for proc, at := range c.At {
			if (at == 1) != (len(r.todo[proc]) == 0) {
				t.Fatalf("%v, %v: %v behind pick %d, process %d", p, script[:i], c, i, proc)
			}
		}
		if i == len(script) {
			return
		}
		pick, first := script[i], -1
		if pick.Proc >= 0 && pick.Proc < len(r.todo) && len(r.todo[pick.Proc]) > 0 {
			first = r.todo[pick.Proc][0].Kind
		}
		moved, kind := r.step(pick)
		_, now, err := step.Step(s, c, pick)
		if err != api.OK || now.Moved != moved || now.Kind != kind {
			t.Fatalf("%v, %v: %v %v %d, want %v %d", p, script[:i+1], c, now, err, moved, kind)
		}
		if moved {
			moves[edgeKind(first)]++
		}
		if kind == 0 {
			continue
		}
		e := s.Graphs[done.Proc].Edges[done.Edge]
		if i != len(all)-1 || now != done || done.Proc != pick.Proc || e.From != c.At[pick.Proc] ||
			e.Kind != edgeKind(first) || flow.Out(s.Graphs[done.Proc], e.From)[0] != done.Edge {
			t.Fatalf("%v, %v: %v, %v", p, script[:i+1], now, done)
		}
		return
	}
	t.Fatal("the run ended too early:", p, script, all, done)
}
