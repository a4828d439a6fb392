package outer_test

import (
	"math/rand"
	"slices"
	"testing"

	"jetsam/api"
	"jetsam/ast"
	"jetsam/check"
	"jetsam/conf"
	"jetsam/fix"
	"jetsam/flow"
	"jetsam/outer"
	"jetsam/sample"
	"jetsam/step"
)

// plain makes systems without loops, Inputs and Recvs, all whose expressions
// are numbers, variables, and sums and differences of these with numbers.
type plain struct {
	random *rand.Rand
	chans  []check.Chan
	proc   int
	vars   int
}

func (m *plain) sys(t *testing.T) flow.Sys {
	t.Helper()
	procs := 2 + m.random.Intn(3)
	m.chans = nil
	for range m.random.Intn(5) {
		c := sample.Chan(m.random.Intn)
		c.Size = 1 + m.random.Intn(3)
		c.From = m.random.Intn(procs)
		c.To = (c.From + 1) % procs
		m.chans = append(m.chans, c)
	}
	p := check.Prog{Chans: m.chans}
	for m.proc = range procs {
		m.vars = m.random.Intn(4)
		p.Procs = append(p.Procs, check.Proc{Vars: m.vars, Body: m.body(2)})
	}
	s, err := flow.Build(p)
	if err != api.OK {
		t.Fatal(p, err)
	}
	return s
}

func (m *plain) body(deep int) []check.Stmt {
	var list []check.Stmt
	for range m.random.Intn(6) {
		list = append(list, m.stmt(deep))
	}
	return list
}

func (m *plain) stmt(deep int) check.Stmt {
	switch m.random.Intn(5) {
	case 0, 1:
		if m.vars > 0 {
			return check.Stmt{Kind: ast.Assign, Var: m.random.Intn(m.vars), E: m.expr()}
		}
	case 2:
		if deep > 0 {
			return check.Stmt{Kind: ast.If, C: m.cond(1 + m.random.Intn(6)), Body: m.body(deep - 1), Else: m.body(deep - 1)}
		}
	case 3:
		// Seldom one that fails: of nought and a number.
		c := m.cond(ast.Le)
		if m.random.Intn(6) > 0 {
			c.L, c.R = m.number(0), m.number(m.random.Intn(3))
		}
		return check.Stmt{Kind: ast.Assert, C: c}
	}
	for at, c := range m.chans {
		if c.From == m.proc && m.random.Intn(2) == 0 {
			return check.Stmt{Kind: ast.Send, Chan: at, Tag: m.random.Intn(c.Tags), E: m.expr()}
		}
	}
	return check.Stmt{Kind: ast.Assert, C: check.Cond{Op: ast.Eq, L: m.number(1), R: m.number(1)}}
}

func (m *plain) cond(op int) check.Cond {
	return check.Cond{Op: op, L: m.expr(), R: m.expr()}
}

func (m *plain) number(n int) check.Expr {
	return check.Expr{Kind: ast.Num, Num: n}
}

func (m *plain) expr() check.Expr {
	n := m.number(m.random.Intn(6))
	if m.random.Intn(12) == 0 {
		n.Num = most - m.random.Intn(3)
	}
	if m.vars == 0 || m.random.Intn(4) == 0 {
		return n
	}
	e := check.Expr{Kind: ast.Var, Var: m.random.Intn(m.vars)}
	for range m.random.Intn(3) {
		e = check.Expr{Kind: ast.Add + m.random.Intn(2), Kids: []check.Expr{e, n}}
		if m.random.Intn(4) == 0 {
			slices.Reverse(e.Kids)
		}
	}
	return e
}

// alone runs one process as far as it goes, and tells what it is like at each
// node that it comes to, and the error that ends it.
func alone(t *testing.T, s flow.Sys, proc int) (map[int][]int, step.Done) {
	t.Helper()
	list := slices.Repeat([]step.Pick{{Proc: proc}}, len(s.Graphs[proc].Edges)+1)
	all, done, err := step.Run(s, list)
	if err != api.OK {
		t.Fatal(s, err)
	}
	at := map[int][]int{}
	for _, c := range all {
		at[c.At[proc]] = c.Vars[proc]
	}
	return at, done
}

// Nobody hangs on another one there: what one process does alone is all that it
// ever does.
func TestP16_4_JustWhatIsThere(t *testing.T) {
	random := rand.New(rand.NewSource(173))
	kinds, nodes, ways := map[int]int{}, 0, 0
	for range 3000 {
		m := plain{random: random}
		s := m.sys(t)
		r := analyzed(t, s)
		var want []fix.Alarm
		for proc := range s.Graphs {
			at, done := alone(t, s, proc)
			for node, row := range at {
				nodes++
				just := sample.NumOf(sample.Hull(len(row), [][]int{row}))
				if !same(r.At[proc][node].N, just) {
					t.Fatal(s, proc, node, r.At[proc][node], "want", just)
				}
			}
			if done.Kind != 0 {
				want = append(want, fix.Alarm{Proc: proc, Edge: done.Edge, Kind: done.Kind})
				kinds[done.Kind]++
			}
			ways += len(flow.Out(s.Graphs[proc], 0)) - 1
		}
		if !same(r.Alarms, want) {
			t.Fatal(s, r.Alarms, "want", want)
		}
	}
	for _, kind := range []int{api.FailedAssert, api.Overflow, api.FullChannel, api.BrokenRule} {
		if kinds[kind] < 50 {
			t.Error("too few errors of kind", kind, kinds)
		}
	}
	if nodes < 15000 || ways < 500 {
		t.Error("too few:", nodes, ways)
	}
}

// Whoever else runs, too, and whatever is lost: at each node the variables are
// those that are told.
func TestP16_4_WhoeverRuns(t *testing.T) {
	random := rand.New(rand.NewSource(174))
	many := 0
	for range 1000 {
		m := plain{random: random}
		s := m.sys(t)
		r := analyzed(t, s)
		all, _, _ := step.Run(s, script(s, 40, random))
		for _, c := range all {
			for proc, row := range c.Vars {
				many++
				just := sample.NumOf(sample.Hull(len(row), [][]int{row}))
				if !same(r.At[proc][c.At[proc]].N, just) {
					t.Fatal(s, proc, c, r.At[proc])
				}
			}
		}
	}
	if many < 30000 {
		t.Error("too few:", many)
	}
}

// Two ways that can't be gone both aren't put together.
func TestP16_4_OneOfTwoWays(t *testing.T) {
	s := system(t, "chan c drop 1 from p to q { a , b } ; rule c { 0 a 1 ; 1 b 1 ; } proc p { var x ; var y ; x = 2147483646 ; if ( x + 1 > 5 ) { y = x - 1 ; send c . a ( y ) ; } else { y = 0 - 3 ; send c . b ( 1 ) ; send c . b ( 1 ) ; } y = y + 2 ; } "+
		"proc q { var z ; z = 3 ; if ( z != 3 ) { assert ( z == 3 ) ; } else { z = 5 ; } assert ( z == 5 ) ; assert ( z + 1 < 6 ) ; z = 2147483647 ; z = z + 1 ; }")
	r := analyzed(t, s)
	if !same(r.Alarms, []fix.Alarm{alarm(1, 6, api.FailedAssert)}) {
		t.Error(r.Alarms)
	}
	c, _ := conf.Start(s)
	c.At[0], c.Vars[0], c.States[0] = 1, []int{2147483646, 2147483647}, 1
	if !same(r.At[0][1].N, sample.NumOf(sample.Hull(2, c.Vars[:1]))) || !outer.In(s, r, c) {
		t.Error(r.At[0][1])
	}
}
