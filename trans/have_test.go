package trans_test

import (
	"math/rand"
	"slices"
	"testing"

	"jetsam/api"
	"jetsam/check"
	"jetsam/conf"
	"jetsam/flow"
	"jetsam/itv"
	"jetsam/num"
	"jetsam/queue"
	"jetsam/rule"
	"jetsam/sample"
	"jetsam/step"
	"jetsam/trans"
)

// place is where one process of a running system is, and what may be there: what
// was sent on each channel up to then, too.
type place struct {
	w    trans.World
	proc int
	c    conf.Conf
	sent []int
	a    trans.State
}

// around makes what may be around a configuration; exact: just that, and nothing more.
func around(s flow.Sys, exact bool, random *rand.Rand) place {
	p := place{w: trans.World{S: s, Deaf: trans.Deaf(s)}, proc: random.Intn(len(s.Graphs)), c: sample.Conf(s, random.Intn)}
	rows := [][]int{p.c.Vars[p.proc]}
	if !exact {
		rows = append(rows, sample.Rows(s.Vars[p.proc], random.Intn)...)
	}
	p.a.N = sample.NumOf(sample.Hull(s.Vars[p.proc], rows))
	for at, c := range s.Chans {
		sent := len(p.c.Queues[at])
		if !p.w.Deaf[at] || c.Kind == api.Lossy {
			// Some were taken, or lost.
			sent += random.Intn(4)
		}
		count, states := min(sent, c.Size+1), rule.Set(1)<<p.c.States[at]
		e := queue.None(c)
		if !exact {
			states |= rule.Set(random.Intn(1 << max(1, len(c.Rule))))
			e = sample.Elem(c, random.Intn)
		}
		for _, m := range p.c.Queues[at] {
			e = queue.Send(c, e, m.Tag, itv.Const(m.Val))
		}
		e.Len.Hi = max(e.Len.Hi, len(p.c.Queues[at]))
		p.w.Elems = append(p.w.Elems, e)
		p.sent = append(p.sent, sent)
		p.a.Rules = append(p.a.Rules, states)
		p.a.Counts = append(p.a.Counts, countAround(count, c, exact, random))
	}
	return p
}

func countAround(count int, c check.Chan, exact bool, random *rand.Rand) itv.Itv {
	if exact {
		return between(count, count)
	}
	return between(random.Intn(count+1), max(count, []int{count, c.Size, c.Size + 1, 17}[random.Intn(4)]))
}

// near makes a system, whose places are most often ones from which a process may go on.
func near(random *rand.Rand, exact bool) place {
	for {
		s, _ := sample.Sys(random.Intn)
		for at := range s.Chans {
			if random.Intn(3) > 0 {
				s.Chans[at].Size = 1 + random.Intn(2)
			}
		}
		p := around(s, exact, random)
		if len(flow.Out(s.Graphs[p.proc], p.c.At[p.proc])) > 0 {
			return p
		}
	}
}

// gone tells the edge by which a process went on, or at which an error is.
func gone(p place, done step.Done) int {
	g := p.w.S.Graphs[p.proc]
	out := flow.Out(g, p.c.At[p.proc])
	switch e := g.Edges[out[0]]; {
	case done.Kind != 0:
		return done.Edge
	case e.Kind == flow.Assume:
		if holds, _ := step.Holds(e.C, p.c.Vars[p.proc]); !holds {
			return out[1]
		}
	case e.Kind == flow.Recv:
		for _, at := range out {
			if g.Edges[at].Tag == p.c.Queues[e.Chan][0].Tag {
				return at
			}
		}
	}
	return out[0]
}

// wantHad holds what came of a step against what is told of its edge.
func wantHad(t *testing.T, p place, next conf.Conf, e flow.Edge, b trans.State, sent trans.Sent) {
	t.Helper()
	if !num.Has(b.N, next.Vars[p.proc]) {
		t.Fatal("variables", p, e, b, next)
	}
	for at, c := range p.w.S.Chans {
		count := p.sent[at]
		if e.Kind == flow.Send && e.Chan == at {
			count++
		}
		if !itv.Has(b.Counts[at], min(count, c.Size+1)) || !rule.Has(b.Rules[at], next.States[at]) {
			t.Fatal("channel", at, p, e, b, next)
		}
	}
	if e.Kind != flow.Send {
		if sent != unsent {
			t.Fatal("sent", p, e, sent)
		}
		return
	}
	val, fault := step.Eval(e.E, p.c.Vars[p.proc])
	if fault != 0 || sent.Chan != e.Chan || sent.Tag != e.Tag || !itv.Has(sent.Vals, val) {
		t.Fatal("sent", p, e, sent, val)
	}
}

func TestP14_2_WhatStepsMakeIsHad(t *testing.T) {
	random := rand.New(rand.NewSource(147))
	moves, kinds := map[int]int{}, map[int]int{}
	for range 60000 {
		p := near(random, false)
		pick := step.Pick{Proc: p.proc, Lose: random.Intn(4) == 0, Input: sample.Number(random.Intn)}
		next, done, err := step.Step(p.w.S, p.c, pick)
		if err != api.OK {
			t.Fatal(p, err)
		}
		if !done.Moved && done.Kind == 0 {
			continue
		}
		edge := gone(p, done)
		e := p.w.S.Graphs[p.proc].Edges[edge]
		b, sent, told := trans.Step(p.w, p.proc, edge, p.a)
		if !slices.IsSorted(told) || len(slices.Compact(slices.Clone(told))) != len(told) || !trans.Empty(b) && !num.Right(b.N) {
			t.Fatal(p, b, told)
		}
		if done.Kind != 0 {
			kinds[done.Kind]++
			if !slices.Contains(told, done.Kind) {
				t.Fatal("error", p, e, done, told)
			}
			continue
		}
		moves[e.Kind]++
		wantHad(t, p, next, e, b, sent)
	}
	for kind := flow.Skip; kind <= flow.Input; kind++ {
		if moves[kind] < 300 {
			t.Error("too few moves of kind", kind, moves)
		}
	}
	for kind := api.FailedAssert; kind <= api.BrokenRule; kind++ {
		if kinds[kind] < 100 {
			t.Error("too few errors of kind", kind, kinds)
		}
	}
}

// Of one row of numbers, one count and one state, just what a run does is told,
// where messages come or the room hangs on nobody else.
func TestP14_1_OfOneRowJustThat(t *testing.T) {
	random := rand.New(rand.NewSource(148))
	seen := map[int]int{}
	for range 40000 {
		p := near(random, true)
		out := flow.Out(p.w.S.Graphs[p.proc], p.c.At[p.proc])
		first := p.w.S.Graphs[p.proc].Edges[out[0]]
		if first.Kind == flow.Recv || first.Kind == flow.Input || first.Kind == flow.Send && !p.w.Deaf[first.Chan] {
			continue
		}
		next, done, _ := step.Step(p.w.S, p.c, step.Pick{Proc: p.proc})
		by := -1
		if done.Moved {
			by = gone(p, done)
		}
		for _, edge := range out {
			b, _, told := trans.Step(p.w, p.proc, edge, p.a)
			if trans.Empty(b) != (edge != by) || edge == by && !same(b.N, sample.NumOf(sample.Hull(len(b.N.I), [][]int{next.Vars[p.proc]}))) {
				t.Fatal(p, edge, b, done)
			}
			if done.Kind == 0 && len(told) > 0 || done.Kind != 0 && edge == done.Edge && !same(told, []int{done.Kind}) {
				t.Fatal(p, edge, told, done)
			}
		}
		seen[first.Kind]++
	}
	for _, kind := range []int{flow.Skip, flow.Assign, flow.Assume, flow.Assert, flow.Send} {
		if seen[kind] < 300 {
			t.Error("too few of kind", kind, seen)
		}
	}
}

// A whole run of one process, edge by edge: what is told has it all the way.
func TestP14_2_Runs(t *testing.T) {
	random := rand.New(rand.NewSource(149))
	long := 0
	for range 6000 {
		s, _ := sample.Sys(random.Intn)
		p := place{w: sample.World(s, random.Intn), sent: make([]int, len(s.Chans))}
		p.c, _ = conf.Start(s)
		p.a = trans.Start(s, 0)
		for range 30 {
			// Nobody else does anything, so that no message comes.
			next, done, _ := step.Step(s, p.c, step.Pick{Input: sample.Number(random.Intn), Lose: random.Intn(2) == 0})
			if !done.Moved && done.Kind == 0 {
				break
			}
			edge := gone(p, done)
			e := s.Graphs[0].Edges[edge]
			b, sent, told := trans.Step(p.w, 0, edge, p.a)
			if done.Kind != 0 {
				if !slices.Contains(told, done.Kind) {
					t.Fatal(p, done, told)
				}
				break
			}
			wantHad(t, p, next, e, b, sent)
			if sent.Chan >= 0 {
				p.sent[sent.Chan]++
			}
			p.a, p.c = b, next
			long++
		}
	}
	if long < 5000 {
		t.Error("too few steps:", long)
	}
}
