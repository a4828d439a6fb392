package step

import (
	"jetsam/api"
	"jetsam/check"
	"jetsam/conf"
	"jetsam/flow"
)

// wait stands for the place of an edge, where none is gone by.
const wait = -1

// mover does one step of a process. It changes next only where there is no
// error, and it needn't wait.
type mover struct {
	pick  Pick
	chans []check.Chan
	edges []flow.Edge
	next  conf.Conf
}

// move does a step of what is conf.Right.
func move(s flow.Sys, c conf.Conf, p Pick) (conf.Conf, Done) {
	next := conf.Copy(c)
	if p.Proc < 0 || p.Proc >= len(s.Graphs) {
		return next, Done{}
	}
	g := s.Graphs[p.Proc]
	out := flow.Out(g, c.At[p.Proc])
	if len(out) == 0 {
		return next, Done{}
	}
	m := mover{pick: p, chans: s.Chans, edges: g.Edges, next: next}
	edge, fault := m.leave(out)
	switch {
	case edge == wait:
		return next, Done{}
	case fault != 0:
		return next, Done{Kind: fault, Proc: p.Proc, Edge: edge}
	}
	next.At[p.Proc] = g.Edges[edge].To
	return next, Done{Moved: true}
}

// leave does what the edges that leave a node ask for. It tells the place of
// the one that is gone by, or at which an error is, and that error's kind.
func (m *mover) leave(out []int) (int, int) {
	first := out[0]
	e := m.edges[first]
	switch e.Kind {
	case flow.Assign:
		return first, m.assign(e)
	case flow.Assume:
		return m.choose(out)
	case flow.Assert:
		return first, m.assert(e)
	case flow.Input:
		m.vars()[e.Var] = int(int32(m.pick.Input))
	case flow.Send:
		return m.send(first)
	case flow.Recv:
		return m.receive(out)
	}
	return first, 0
}

// vars tells those of the process that does the step.
func (m *mover) vars() []int {
	return m.next.Vars[m.pick.Proc]
}

func (m *mover) assign(e flow.Edge) int {
	n, fault := Eval(e.E, m.vars())
	if fault == 0 {
		m.vars()[e.Var] = n
	}
	return fault
}

// choose: of two edges, the second one holds just where the first one doesn't.
func (m *mover) choose(out []int) (int, int) {
	holds, fault := Holds(m.edges[out[0]].C, m.vars())
	if holds || fault != 0 {
		return out[0], fault
	}
	return out[1], 0
}

func (m *mover) assert(e flow.Edge) int {
	holds, fault := Holds(e.C, m.vars())
	if !holds && fault == 0 {
		return api.FailedAssert
	}
	return fault
}

func (m *mover) send(edge int) (int, int) {
	e := m.edges[edge]
	c, queue := m.chans[e.Chan], m.next.Queues[e.Chan]
	full := len(queue) == c.Size
	if full && c.Kind == api.Block {
		return wait, 0
	}
	n, fault := Eval(e.E, m.vars())
	if fault != 0 {
		return edge, fault
	}
	state := ruled(c, m.next.States[e.Chan], e.Tag)
	if state < 0 {
		return edge, api.BrokenRule
	}
	if full && c.Kind == api.Drop {
		return edge, api.FullChannel
	}
	m.next.States[e.Chan] = state
	// Only of a Lossy channel it is that what is sent may be lost.
	if c.Kind != api.Lossy || !full && !m.pick.Lose {
		m.next.Queues[e.Chan] = append(queue, conf.Msg{Tag: e.Tag, Val: n})
	}
	return edge, 0
}

// ruled tells the state behind a tag, below 0 if the rule has no such move.
func ruled(c check.Chan, state, tag int) int {
	if len(c.Rule) == 0 {
		return state
	}
	return c.Rule[state][tag]
}

func (m *mover) receive(out []int) (int, int) {
	at := m.edges[out[0]].Chan
	queue := m.next.Queues[at]
	if len(queue) == 0 {
		return wait, 0
	}
	for _, edge := range out {
		if e := m.edges[edge]; e.Tag == queue[0].Tag {
			m.vars()[e.Var] = queue[0].Val
			m.next.Queues[at] = queue[1:]
			return edge, 0
		}
	}
	return out[0], api.WrongTag
}
