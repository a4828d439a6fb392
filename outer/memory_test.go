package outer_test

import (
	"fmt"
	"math"
	"math/rand"
	"testing"

	"jetsam/check"
	"jetsam/conf"
	"jetsam/flow"
	"jetsam/itv"
	"jetsam/num"
	"jetsam/outer"
	"jetsam/queue"
	"jetsam/rule"
	"jetsam/sample"
	"jetsam/step"
	"jetsam/trans"
)

// itvs tells all lists of Itvs of a result, the spare room, too.
func itvs(r outer.Result) [][]itv.Itv {
	var lists [][]itv.Itv
	for _, at := range r.At {
		for _, a := range at {
			lists = append(lists, a.N.I[:cap(a.N.I)], a.Counts[:cap(a.Counts)])
		}
	}
	for _, e := range r.Elems {
		lists = append(lists, e.Vals[:cap(e.Vals)])
	}
	return lists
}

// spoil writes over all of a result's lists, the spare room, too, but the one
// that is spared.
func spoil(r outer.Result, spared int) {
	for at, list := range itvs(r) {
		for i := range list {
			if at != spared {
				list[i] = between(77, -77)
			}
		}
	}
	for _, at := range r.At {
		for _, a := range at {
			for i := range cap(a.Rules) {
				a.Rules[:cap(a.Rules)][i] = 170
			}
		}
	}
	for i := range cap(r.Alarms) {
		r.Alarms[:cap(r.Alarms)][i] = alarm(77, 77, 77)
	}
}

func TestP16_5_NothingIsChangedOrShared(t *testing.T) {
	random := rand.New(rand.NewSource(175))
	for range 600 {
		s := anySystem(t, random)
		all, _, _ := step.Run(s, script(s, 20, random))
		c := all[len(all)-1]
		ahead := fmt.Sprint(s, c)
		r, other := analyzed(t, s), analyzed(t, s)
		text := fmt.Sprint(r)
		if !outer.In(s, r, c) || outer.Bound(s) < r.Steps || ahead != fmt.Sprint(s, c) || text != fmt.Sprint(r) {
			t.Fatal("changed", ahead)
		}
		if text != fmt.Sprint(other) {
			t.Fatal("not the same again", r, other)
		}
		spoil(r, -1)
		if text != fmt.Sprint(other) || ahead != fmt.Sprint(s, c) {
			t.Fatal("an answer shares memory", ahead)
		}
		for at := range s.Chans {
			for _, row := range s.Chans[at].Rule {
				row[0] = 77
			}
			s.Chans[at].Tags = 77
		}
		for at, g := range s.Graphs {
			for i := range g.Edges {
				g.Edges[i] = flow.Edge{}
			}
			s.Vars[at] = 77
		}
		if text != fmt.Sprint(other) {
			t.Fatal("an answer has the memory of what was handed in", ahead)
		}
	}
}

// Each list of an answer is one of its own.
func TestP16_5_ListsOfOneAnswer(t *testing.T) {
	random := rand.New(rand.NewSource(176))
	for range 100 {
		s := anySystem(t, random)
		r := analyzed(t, s)
		for at := range itvs(r) {
			again := analyzed(t, s)
			kept := fmt.Sprint(itvs(again)[at])
			spoil(again, at)
			if kept != fmt.Sprint(itvs(again)[at]) {
				t.Fatal("two lists have one memory", s, at)
			}
		}
		for proc, at := range r.At {
			for node, a := range at {
				for i := range cap(a.Rules) {
					a.Rules[:cap(a.Rules)][i] = rule.Set(60*proc + node)
				}
			}
		}
		for proc, at := range r.At {
			for node, a := range at {
				for i := range cap(a.Rules) {
					if a.Rules[:cap(a.Rules)][i] != rule.Set(60*proc+node) {
						t.Fatal("two sets have one memory", s, proc, node)
					}
				}
			}
		}
	}
}

// wild makes what can't be, too, by numbers of all kinds.
type wild struct {
	random *rand.Rand
}

func (m wild) number() int {
	list := []int{math.MinInt, least, -2, -1, 0, 1, 2, 3, 7, 17, 802, 803, most, 1 << 40, math.MaxInt}
	if m.random.Intn(2) == 0 {
		return m.random.Intn(4)
	}
	return list[m.random.Intn(len(list))]
}

// sys makes one that can't be most often, by changing one that can be.
func (m wild) sys() flow.Sys {
	s, _ := sample.Sys(m.random.Intn)
	for range m.random.Intn(3) {
		proc := m.random.Intn(len(s.Graphs))
		g := &s.Graphs[proc]
		edge := &g.Edges[m.random.Intn(len(g.Edges))]
		for _, at := range []*int{&edge.From, &edge.To, &edge.Kind, &edge.Var, &edge.Chan, &edge.Tag, &g.Nodes, &s.Vars[proc]} {
			if m.random.Intn(8) == 0 {
				*at = m.number()
			}
		}
		if m.random.Intn(8) == 0 {
			g.Heads = []int{m.number(), m.number()}[:m.random.Intn(3)]
		}
		for at := range s.Chans {
			if m.random.Intn(8) == 0 {
				s.Chans[at] = check.Chan{Kind: m.number(), Size: m.number(), From: m.number(), To: m.number(), Tags: m.number(), Rule: [][]int{{m.number()}, nil}}
			}
		}
	}
	if m.random.Intn(9) == 0 {
		s.Vars = s.Vars[:m.random.Intn(len(s.Vars))]
	}
	return s
}

func (m wild) itvs() []itv.Itv {
	var list []itv.Itv
	for range m.random.Intn(5) {
		list = append(list, between(m.number(), m.number()))
	}
	return list
}

func (m wild) state() trans.State {
	a := trans.State{N: sample.Num(m.random.Intn(7), m.random.Intn), Counts: m.itvs()}
	if m.random.Intn(3) == 0 {
		a.N = num.Num{I: m.itvs()}
		a.N.Z.N, a.N.Z.D[1][0] = m.number(), m.number()
	}
	for range m.random.Intn(5) {
		a.Rules = append(a.Rules, rule.Set(m.random.Intn(256)))
	}
	return a
}

// result makes one, often with as many of each as the system has.
func (m wild) result(s flow.Sys) outer.Result {
	r := outer.Result{Steps: m.number()}
	for _, g := range s.Graphs {
		var at []trans.State
		for range min(max(g.Nodes, 0), 900) - m.random.Intn(2)*m.random.Intn(2) {
			a := m.state()
			for len(a.Counts) < len(s.Chans) {
				a.Counts = append(a.Counts, itv.All())
			}
			for len(a.Rules) < len(s.Chans) {
				a.Rules = append(a.Rules, 255)
			}
			if m.random.Intn(50) > 0 {
				a.Counts, a.Rules = a.Counts[:len(s.Chans)], a.Rules[:len(s.Chans)]
			}
			at = append(at, a)
		}
		r.At = append(r.At, at)
	}
	for _, c := range s.Chans {
		e := queue.Elem{Len: between(m.number(), m.number()), Vals: m.itvs()}
		if m.random.Intn(4) > 0 && c.Tags >= 0 && c.Tags < 9 {
			e.Vals = make([]itv.Itv, c.Tags)
		}
		r.Elems = append(r.Elems, e)
	}
	return r
}

func TestP1_WhateverIsAsked(t *testing.T) {
	m := wild{rand.New(rand.NewSource(177))}
	right, in := 0, 0
	for range 3000 {
		s := m.sys()
		if flow.Right(s) {
			right++
		}
		outer.Analyze(s, []int{m.number(), math.MaxInt, m.random.Intn(200)}[m.random.Intn(3)])
		outer.Bound(s)
		for _, of := range []flow.Sys{s, m.sys()} {
			c := conf.Conf{At: []int{m.number()}, Vars: [][]int{{m.number()}}, Queues: [][]conf.Msg{{{Tag: m.number(), Val: m.number()}}}, States: []int{m.number()}}
			if flow.Right(of) {
				c = sample.Conf(of, m.random.Intn)
			}
			for _, r := range []outer.Result{m.result(s), m.result(of), {}} {
				if outer.In(s, r, c) || outer.In(of, r, c) {
					in++
				}
			}
		}
	}
	if right < 500 || right > 2500 || in < 5 {
		t.Error("too few of one kind:", right, in)
	}
}
