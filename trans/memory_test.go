package trans_test

import (
	"fmt"
	"math"
	"math/rand"
	"slices"
	"testing"

	"jetsam/api"
	"jetsam/check"
	"jetsam/flow"
	"jetsam/itv"
	"jetsam/num"
	"jetsam/queue"
	"jetsam/rule"
	"jetsam/sample"
	"jetsam/trans"
)

// roomy has spare room behind its lists, with something in it.
func roomy(a trans.State) trans.State {
	a.N.I = append(slices.Clone(a.N.I), between(99, 99))[:len(a.N.I)]
	a.Counts = append(slices.Clone(a.Counts), between(99, 99))[:len(a.Counts)]
	a.Rules = append(slices.Clone(a.Rules), 99)[:len(a.Rules)]
	return a
}

// whole tells all of a state, the spare room, too.
func whole(a trans.State) string {
	return fmt.Sprint(a, a.N.I[:cap(a.N.I)], a.Counts[:cap(a.Counts)], a.Rules[:cap(a.Rules)])
}

// spoil writes over all of a state's lists, their spare room, too.
func spoil(a trans.State) {
	for _, list := range [][]itv.Itv{a.N.I[:cap(a.N.I)], a.Counts[:cap(a.Counts)]} {
		for at := range list {
			list[at] = between(77, -77)
		}
	}
	list := a.Rules[:cap(a.Rules)]
	for at := range list {
		list[at] = 170
	}
}

// states tells what all calls make of two states.
func states(w trans.World, proc, edge int, a, b trans.State) []trans.State {
	behind, _, _ := trans.Step(w, proc, edge, a)
	return []trans.State{behind, trans.Join(a, b), trans.Join(b, a), trans.Widen(a, b), trans.Widen(b, a), trans.Start(w.S, proc), trans.None(w.S, proc)}
}

func TestP14_3_NothingIsChangedOrShared(t *testing.T) {
	random := rand.New(rand.NewSource(150))
	seen := map[int]int{}
	for range 1500 {
		s, _ := sample.Sys(random.Intn)
		w, proc := sample.World(s, random.Intn), random.Intn(len(s.Graphs))
		edge := random.Intn(len(s.Graphs[proc].Edges))
		a, b := roomy(sample.State(s, proc, random.Intn)), roomy(sample.State(s, proc, random.Intn))
		ahead, words := fmt.Sprint(w), whole(a)+whole(b)
		told := states(w, proc, edge, a, b)
		again := states(w, proc, edge, a, b)
		trans.Within(a, b)
		trans.Empty(a)
		if ahead != fmt.Sprint(w) || words != whole(a)+whole(b) {
			t.Fatal("changed", words)
		}
		if !same(told, again) {
			t.Fatal("not the same again", words)
		}
		told = append(told, again...)
		kept := fmt.Sprint(told)
		spoil(a)
		spoil(b)
		for _, e := range w.Elems {
			for tag := range e.Vals {
				e.Vals[tag] = between(77, -77)
			}
		}
		if kept != fmt.Sprint(told) {
			t.Fatal("an answer has the memory of what was handed in", words)
		}
		for at, c := range told {
			others := fmt.Sprint(told[at+1:])
			spoil(c)
			if others != fmt.Sprint(told[at+1:]) {
				t.Fatal("two answers have one memory", words)
			}
		}
		seen[s.Graphs[proc].Edges[edge].Kind]++
	}
	for kind := flow.Skip; kind <= flow.Input; kind++ {
		if seen[kind] < 20 {
			t.Error("too few of kind", kind, seen)
		}
	}
}

func TestP14_3_DeafAndKindsAreNew(t *testing.T) {
	s := system(t, twoText)
	a, b := trans.Deaf(s), trans.Deaf(s)
	for at := range cap(a) {
		a[:cap(a)][at] = !b[:cap(b)][at]
	}
	if !same(b, []bool{true, false}) {
		t.Error("two answers have one memory", b)
	}
	w := alone(t, "a = a + 2147483647 + 1 / b ;")
	n := plain(box(between(0, 1), between(0, 1)))
	_, _, one := trans.Step(w, 0, 0, n)
	_, _, other := trans.Step(w, 0, 0, n)
	for at := range cap(one) {
		one[:cap(one)][at] = 99
	}
	if !same(other, []int{api.Overflow, api.DivZero}) {
		t.Error("two answers have one memory", other)
	}
}

// wild makes what can't be, too, by numbers of all kinds.
type wild struct {
	random *rand.Rand
}

func (m wild) number() int {
	list := []int{math.MinInt, math.MinInt + 1, -1 << 41, least, -2, -1, 0, 1, 2, 3, 4, 6, 7, 16, 17, most, 1 << 40, math.MaxInt - 1, math.MaxInt}
	if m.random.Intn(2) == 0 {
		return m.random.Intn(3)
	}
	return list[m.random.Intn(len(list))]
}

func (m wild) itvs() []itv.Itv {
	var list []itv.Itv
	for range m.random.Intn(5) {
		list = append(list, between(m.number(), m.number()))
	}
	return list
}

func (m wild) state() trans.State {
	a := trans.State{N: sample.Num(m.random.Intn(7), m.random.Intn), Counts: m.itvs()}
	if m.random.Intn(2) == 0 {
		a.N = num.Num{None: m.random.Intn(3) == 0, I: m.itvs()}
		a.N.Z.N, a.N.Z.D[1][0] = m.number(), m.number()
	}
	for range []int{len(a.Counts), m.random.Intn(5)}[m.random.Intn(2)] {
		a.Rules = append(a.Rules, rule.Set(m.random.Intn(256)))
	}
	return a
}

func (m wild) edge() flow.Edge {
	e := flow.Edge{From: m.number(), To: m.number(), Kind: m.random.Intn(9) - 1, Var: m.number(), Chan: m.number(), Tag: m.number()}
	e.E = sample.Expr(m.random.Intn(7), m.random.Intn)
	e.C = check.Cond{Op: m.random.Intn(8), L: e.E, R: check.Expr{Kind: m.random.Intn(10), Var: m.number()}}
	return e
}

func (m wild) world() trans.World {
	var w trans.World
	for range m.random.Intn(5) {
		c := check.Chan{Kind: m.number(), Size: m.number(), From: m.number(), To: m.number(), Tags: m.number()}
		for range m.random.Intn(3) {
			c.Rule = append(c.Rule, []int{m.number(), m.number()}[:m.random.Intn(3)])
		}
		w.S.Chans = append(w.S.Chans, c)
	}
	for range m.random.Intn(5) {
		w.Elems = append(w.Elems, queue.Elem{Len: between(m.number(), m.number()), Vals: m.itvs()})
		w.Deaf = append(w.Deaf, m.random.Intn(2) == 0)
	}
	for range m.random.Intn(4) {
		g := flow.Graph{Nodes: m.number(), Heads: []int{m.number()}}
		for range m.random.Intn(4) {
			g.Edges = append(g.Edges, m.edge())
		}
		w.S.Graphs = append(w.S.Graphs, g)
		w.S.Vars = append(w.S.Vars, m.number())
	}
	return w
}

func TestP1_WhateverIsAsked(t *testing.T) {
	m := wild{rand.New(rand.NewSource(151))}
	for range 40000 {
		w, a, b := m.world(), m.state(), m.state()
		if m.random.Intn(3) == 0 {
			w.S.Vars = w.S.Vars[:m.random.Intn(len(w.S.Vars)+1)]
		}
		trans.Deaf(w.S)
		trans.Within(a, b)
		trans.Empty(a)
		states(w, m.number(), m.number(), a, b)
		for range 4 {
			if a := m.state(); m.random.Intn(2) == 0 && len(a.Counts) > 0 {
				a.Counts = slices.Repeat(a.Counts[:1], len(w.S.Chans))
				a.Rules = make([]rule.Set, len(w.S.Chans))
				states(w, m.random.Intn(3), m.random.Intn(3), a, b)
			} else {
				states(w, m.random.Intn(3), m.random.Intn(3), a, b)
			}
		}
	}
}

// States and Worlds that don't fit the system, of a system that is flow.Right.
func TestP1_WhatDoesntFit(t *testing.T) {
	random := rand.New(rand.NewSource(152))
	m := wild{random}
	for range 5000 {
		s, _ := sample.Sys(random.Intn)
		w, other := sample.World(s, random.Intn), m.world()
		proc := random.Intn(len(s.Graphs))
		for edge := range s.Graphs[proc].Edges {
			a := sample.State(s, proc, random.Intn)
			for _, v := range []trans.World{{S: s}, {S: s, Elems: other.Elems, Deaf: other.Deaf}, {S: s, Elems: w.Elems, Deaf: other.Deaf}} {
				trans.Step(v, proc, edge, a)
			}
			trans.Step(w, proc, edge, m.state())
		}
	}
}
