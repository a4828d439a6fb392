package fix_test

import (
	"fmt"
	"math"
	"math/rand"
	"slices"
	"testing"

	"jetsam/api"
	"jetsam/check"
	"jetsam/fix"
	"jetsam/flow"
	"jetsam/itv"
	"jetsam/num"
	"jetsam/queue"
	"jetsam/rule"
	"jetsam/sample"
	"jetsam/trans"
)

// itvs tells all lists of Itvs of what may be, the spare room, too.
func itvs(f fix.Fixed) [][]itv.Itv {
	var lists [][]itv.Itv
	for _, a := range f.At {
		lists = append(lists, a.N.I[:cap(a.N.I)], a.Counts[:cap(a.Counts)])
	}
	for _, e := range f.Sent {
		lists = append(lists, e.Vals[:cap(e.Vals)])
	}
	return lists
}

// spoil writes over all of an answer's lists but the one that is spared.
func spoil(f fix.Fixed, spared int) {
	for at, list := range itvs(f) {
		for i := range list {
			if at != spared {
				list[i] = between(77, -77)
			}
		}
	}
	for _, a := range f.At {
		for i := range cap(a.Rules) {
			a.Rules[:cap(a.Rules)][i] = 170
		}
	}
	for i := range cap(f.Alarms) {
		f.Alarms[:cap(f.Alarms)][i] = fix.Alarm{Proc: 77, Edge: 77, Kind: 77}
	}
}

func TestP15_4_NothingIsChangedOrShared(t *testing.T) {
	random := rand.New(rand.NewSource(165))
	for range 1000 {
		s := anySystem(random)
		w, proc := sample.World(s, random.Intn), random.Intn(len(s.Graphs))
		for at := range w.Elems {
			w.Elems[at].Vals = append(w.Elems[at].Vals, only(99))[:len(w.Elems[at].Vals)]
		}
		whole := func() string {
			text := fmt.Sprint(w)
			for _, e := range w.Elems {
				text += fmt.Sprint(e.Vals[:cap(e.Vals)])
			}
			return text
		}
		ahead := whole()
		f, other := fixed(t, w, proc), fixed(t, w, proc)
		stable := fmt.Sprint(f.At)
		fix.Stable(w, proc, f.At)
		fix.Bound(w, proc)
		if ahead != whole() || stable != fmt.Sprint(f.At) {
			t.Fatal("changed", ahead)
		}
		if !same(f, other) {
			t.Fatal("not the same again", f, other)
		}
		kept := fmt.Sprint(other)
		spoil(f, -1)
		if ahead != whole() || kept != fmt.Sprint(other) {
			t.Fatal("an answer shares memory", ahead)
		}
		for at := range w.Elems {
			w.Elems[at].Len = between(5, 5)
			for tag := range w.Elems[at].Vals {
				w.Elems[at].Vals[tag] = only(42)
			}
			w.S.Chans[at].Tags = 77
		}
		if kept != fmt.Sprint(other) {
			t.Fatal("an answer has the memory of what was handed in", ahead)
		}
	}
}

// Each list of an answer is one of its own.
func TestP15_4_ListsOfOneAnswer(t *testing.T) {
	random := rand.New(rand.NewSource(166))
	for range 300 {
		s := anySystem(random)
		w, proc := sample.World(s, random.Intn), random.Intn(len(s.Graphs))
		f := fixed(t, w, proc)
		for at := range itvs(f) {
			g := fixed(t, w, proc)
			kept := fmt.Sprint(itvs(g)[at])
			spoil(g, at)
			if kept != fmt.Sprint(itvs(g)[at]) {
				t.Fatal("two lists have one memory", w, proc, at)
			}
		}
		g := fixed(t, w, proc)
		for at, a := range g.At {
			for i := range cap(a.Rules) {
				a.Rules[:cap(a.Rules)][i] = rule.Set(at)
			}
		}
		for at, a := range g.At {
			for i := range cap(a.Rules) {
				if a.Rules[:cap(a.Rules)][i] != rule.Set(at) {
					t.Fatal("two sets have one memory", w, proc, at)
				}
			}
		}
	}
}

// wild makes what can't be, too, by numbers of all kinds.
type wild struct {
	random *rand.Rand
}

func (m wild) number() int {
	list := []int{math.MinInt, math.MinInt + 1, -1 << 41, least, -3, -2, -1, 0, 1, 2, 3, 4, 6, 17, 500, 801, 802, 803, 1 << 20, most, 1 << 40, math.MaxInt - 1, math.MaxInt}
	if m.random.Intn(2) == 0 {
		return m.random.Intn(4)
	}
	return list[m.random.Intn(len(list))]
}

func (m wild) itvs(count int) []itv.Itv {
	var list []itv.Itv
	for range count {
		list = append(list, between(m.number(), m.number()))
	}
	return list
}

func (m wild) edge() flow.Edge {
	e := flow.Edge{From: m.number(), To: m.number(), Kind: m.random.Intn(9) - 1, Var: m.number(), Chan: m.number(), Tag: m.number()}
	e.E = sample.Expr(m.random.Intn(7), m.random.Intn)
	e.C = check.Cond{Op: m.random.Intn(8), L: e.E, R: check.Expr{Kind: m.random.Intn(10), Var: m.number()}}
	return e
}

func (m wild) graph() flow.Graph {
	g := flow.Graph{Nodes: []int{m.number(), 1 + m.random.Intn(5)}[m.random.Intn(2)]}
	for range m.random.Intn(7) {
		g.Edges = append(g.Edges, m.edge())
	}
	for range m.random.Intn(3) {
		g.Heads = append(g.Heads, m.number())
	}
	return g
}

func (m wild) channel() check.Chan {
	c := check.Chan{Kind: m.number(), Size: m.number(), From: m.number(), To: m.number(), Tags: m.number()}
	if m.random.Intn(2) == 0 {
		c.Tags = m.random.Intn(5)
	}
	for range m.random.Intn(3) {
		c.Rule = append(c.Rule, []int{m.number(), m.number()}[:m.random.Intn(3)])
	}
	return c
}

// world tells something of each channel and tag most often.
func (m wild) world() trans.World {
	var w trans.World
	for range m.random.Intn(4) {
		c := m.channel()
		e := queue.Elem{Len: between(m.number(), m.number()), Vals: m.itvs(m.random.Intn(5))}
		if c.Tags >= 0 && c.Tags < 20 && m.random.Intn(5) > 0 {
			e.Vals = m.itvs(c.Tags)
		}
		w.S.Chans = append(w.S.Chans, c)
		w.Elems = append(w.Elems, e)
		w.Deaf = append(w.Deaf, m.random.Intn(2) == 0)
	}
	for range m.random.Intn(4) {
		w.S.Graphs = append(w.S.Graphs, m.graph())
		w.S.Vars = append(w.S.Vars, m.number())
	}
	switch m.random.Intn(8) {
	case 0:
		w.S.Vars = w.S.Vars[:m.random.Intn(len(w.S.Vars)+1)]
	case 1:
		w.Elems = w.Elems[:m.random.Intn(len(w.Elems)+1)]
	case 2:
		w.Deaf = w.Deaf[:m.random.Intn(len(w.Deaf)+1)]
	}
	return w
}

func (m wild) states(count int) []trans.State {
	var list []trans.State
	for range count {
		a := trans.State{N: sample.Num(m.random.Intn(7), m.random.Intn), Counts: m.itvs(m.random.Intn(4))}
		if m.random.Intn(3) == 0 {
			a.N = num.Num{None: m.random.Intn(3) == 0, I: m.itvs(m.random.Intn(4))}
			a.N.Z.N, a.N.Z.D[1][0] = m.number(), m.number()
		}
		for range []int{len(a.Counts), m.random.Intn(4)}[m.random.Intn(2)] {
			a.Rules = append(a.Rules, rule.Set(m.random.Intn(256)))
		}
		list = append(list, a)
	}
	return list
}

func TestP1_WhateverIsAsked(t *testing.T) {
	m := wild{rand.New(rand.NewSource(167))}
	seen := map[api.Errno]int{}
	for range 30000 {
		w, proc := m.world(), []int{m.number(), m.random.Intn(3)}[m.random.Intn(2)]
		_, err := fix.Fix(w, proc, []int{m.number(), math.MaxInt, m.random.Intn(30)}[m.random.Intn(3)])
		seen[err]++
		fix.Bound(w, proc)
		fix.Stable(w, proc, m.states(m.random.Intn(5)))
		if proc >= 0 && proc < len(w.S.Graphs) && w.S.Graphs[proc].Nodes < 1000 {
			fix.Stable(w, proc, m.states(w.S.Graphs[proc].Nodes))
		}
	}
	if seen[api.OK] < 1000 || seen[api.ErrBudget] < 500 || seen[api.ErrArg] < 1000 {
		t.Error("too few of one kind:", seen)
	}
}

// A way round without a head ends, whatever the budget is, where a loop would
// go on till the numbers end.
func TestP1_NoHead(t *testing.T) {
	w := alone(t, "while ( x < 2000000000 ) { x = x + 1 ; }")
	w.S.Graphs[0].Heads = nil
	for _, budget := range []int{-1, 0, 50, most, math.MaxInt} {
		if f, err := fix.Fix(w, 0, budget); err != api.ErrBudget || !same(f, fix.Fixed{Steps: max(budget, 0)}) {
			t.Error(budget, f, err)
		}
	}
}

// A graph of more nodes than there may be is no process; one may be without
// any edge.
func TestP1_Nodes(t *testing.T) {
	for _, nodes := range []int{math.MinInt, -1, 0, 803, 1 << 31, 1 << 60, math.MaxInt} {
		w := trans.World{S: flow.Sys{Graphs: []flow.Graph{{Nodes: nodes}}, Vars: []int{1}}}
		if f, err := fix.Fix(w, 0, 100); err != api.ErrArg || !same(f, fix.Fixed{}) || fix.Stable(w, 0, f.At) {
			t.Error(nodes, f, err)
		}
	}
	for _, nodes := range []int{1, 2, 802} {
		w := trans.World{S: flow.Sys{Graphs: []flow.Graph{{Nodes: nodes}}, Vars: []int{1}}}
		want := slices.Repeat([]trans.State{trans.None(w.S, 0)}, nodes)
		want[0] = trans.Start(w.S, 0)
		if f, err := fix.Fix(w, 0, 100); err != api.OK || !same(f.At, want) || !fix.Stable(w, 0, f.At) {
			t.Error(nodes, f, err)
		}
	}
}

// An edge that isn't one from a node to a node is as if it weren't there.
func TestP1_StrayEdges(t *testing.T) {
	g := flow.Graph{Nodes: 2, Edges: []flow.Edge{{From: 0, To: 2}, {From: 3, To: 1}, {From: -1, To: 0}, {From: 0, To: -1}, {From: 0, To: 1}}}
	w := trans.World{S: flow.Sys{Graphs: []flow.Graph{g}, Vars: []int{1}}}
	f, err := fix.Fix(w, 0, 2)
	if err != api.OK || trans.Empty(f.At[1]) || !fix.Stable(w, 0, f.At) {
		t.Error(f, err)
	}
	f.At[1] = trans.None(w.S, 0)
	if fix.Stable(w, 0, f.At) {
		t.Error("stable", f.At)
	}
	w = alone(t, "assert ( x == 1 ) ;")
	w.S.Graphs[0].Edges = append([]flow.Edge{{From: 0, To: 2}}, w.S.Graphs[0].Edges...)
	if f := fixed(t, w, 0); !same(f.Alarms, []fix.Alarm{{Proc: 0, Edge: 1, Kind: api.FailedAssert}}) {
		t.Error(f.Alarms)
	}
}
