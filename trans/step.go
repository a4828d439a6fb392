package trans

import (
	"slices"

	"jetsam/api"
	"jetsam/eval"
	"jetsam/flow"
	"jetsam/itv"
	"jetsam/num"
	"jetsam/queue"
	"jetsam/rule"
)

// passer goes by an edge. It changes state to what is behind it.
type passer struct {
	w     World
	graph flow.Graph
	edge  int
	state State
	sent  Sent
	kinds []int
}

// Step tells what may be behind an edge, what may be sent, and the kinds of
// errors that there may be, rising.
func Step(w World, proc, edge int, a State) (State, Sent, []int) {
	if Empty(a) || !isEdge(w.S, proc, edge) || !fits(w.S, a) {
		return None(w.S, proc), nothing(), nil
	}
	p := passer{w: w, graph: w.S.Graphs[proc], edge: edge, state: copied(a), sent: nothing()}
	passed := p.pass(p.graph.Edges[edge])
	slices.Sort(p.kinds)
	if !passed || Empty(p.state) {
		return None(w.S, proc), nothing(), p.kinds
	}
	return p.state, p.sent, p.kinds
}

// nothing is what is sent where no message is.
func nothing() Sent {
	return Sent{Chan: -1, Vals: itv.None()}
}

// isEdge tells whether there is such an edge, and such a channel as it names.
func isEdge(s flow.Sys, proc, edge int) bool {
	if !isPlace(proc, len(s.Graphs)) || !isPlace(edge, len(s.Graphs[proc].Edges)) {
		return false
	}
	e := s.Graphs[proc].Edges[edge]
	return e.Kind != flow.Send && e.Kind != flow.Recv || isPlace(e.Chan, len(s.Chans))
}

// fits: is it of as many channels as there are?
func fits(s flow.Sys, a State) bool {
	return len(a.Counts) == len(s.Chans) && len(a.Rules) == len(s.Chans)
}

// pass tells whether there may be something behind the edge, as far as
// variables don't tell it.
func (p *passer) pass(e flow.Edge) bool {
	switch e.Kind {
	case flow.Skip:
		return true
	case flow.Assign:
		behind, errs := eval.Assign(p.state.N, e.Var, e.E)
		p.state.N = behind
		p.tellErrs(errs)
		return true
	case flow.Assume:
		p.assume(e)
		return true
	case flow.Assert:
		p.assert(e)
		return true
	case flow.Input:
		p.state.N = num.Set(p.state.N, e.Var, itv.All())
		return true
	case flow.Send:
		return p.send(e)
	case flow.Recv:
		p.receive(e)
		return true
	}
	return false
}

func (p *passer) tell(kind int, is bool) {
	if is {
		p.kinds = append(p.kinds, kind)
	}
}

func (p *passer) tellErrs(errs itv.Errs) {
	p.tell(api.Overflow, errs.Overflow)
	p.tell(api.DivZero, errs.DivZero)
}

// out tells the edges that leave the same node.
func (p *passer) out() []flow.Edge {
	var edges []flow.Edge
	for _, at := range flow.Out(p.graph, p.graph.Edges[p.edge].From) {
		edges = append(edges, p.graph.Edges[at])
	}
	return edges
}

// isFirst: errors that belong to a node are told at the first of its edges.
func (p *passer) isFirst() bool {
	return flow.Out(p.graph, p.graph.Edges[p.edge].From)[0] == p.edge
}

func (p *passer) assume(e flow.Edge) {
	behind, errs := eval.Assume(p.state.N, e.C)
	p.state.N = behind
	if p.isFirst() {
		p.tellErrs(errs)
	}
}

func (p *passer) assert(e flow.Edge) {
	behind, errs := eval.Assume(p.state.N, e.C)
	e.C.Op = flow.Not(e.C.Op)
	failed, _ := eval.Assume(p.state.N, e.C)
	p.tell(api.FailedAssert, !failed.None)
	p.tellErrs(errs)
	p.state.N = behind
}

func (p *passer) receive(e flow.Edge) {
	elem := p.elem(e.Chan)
	p.tell(api.WrongTag, p.isFirst() && p.isStranger(queue.Tags(elem)))
	vals := itv.None()
	if isPlace(e.Tag, len(elem.Vals)) {
		vals = elem.Vals[e.Tag]
	}
	p.state.N = num.Set(p.state.N, e.Var, vals)
}

// elem tells what may be in a channel: nothing, if the world doesn't tell it.
func (p *passer) elem(at int) queue.Elem {
	if at >= len(p.w.Elems) {
		return queue.Elem{}
	}
	return p.w.Elems[at]
}

// isStranger: is there a tag among these that none of the node's edges has?
func (p *passer) isStranger(tags []int) bool {
	out := p.out()
	return slices.ContainsFunc(tags, func(tag int) bool {
		return !slices.ContainsFunc(out, func(e flow.Edge) bool { return e.Tag == tag })
	})
}

// send looks at what may be wrong in the order in which a run does.
func (p *passer) send(e flow.Edge) bool {
	c, count := p.w.S.Chans[e.Chan], p.state.Counts[e.Chan]
	below := count
	stays := c.Kind != api.Lossy && p.isDeaf(e.Chan)
	if stays {
		// All that was sent is still there, and fills the room.
		below = itv.Meet(count, itv.Of(0, c.Size-1))
	}
	if stays && c.Kind == api.Block && itv.Empty(below) {
		return false
	}
	vals, errs := eval.Eval(e.E, p.state.N)
	p.tellErrs(errs)
	if itv.Empty(vals) {
		return false
	}
	states, broken := rule.Step(c, p.state.Rules[e.Chan], e.Tag)
	p.tell(api.BrokenRule, broken)
	if len(c.Rule) > 0 && states == 0 {
		return false
	}
	p.tell(api.FullChannel, c.Kind == api.Drop && count.Hi >= c.Size)
	if stays && itv.Empty(below) {
		return false
	}
	p.state.Counts[e.Chan] = oneMore(below, c.Size)
	p.state.Rules[e.Chan] = states
	p.sent = Sent{Chan: e.Chan, Tag: e.Tag, Vals: vals}
	return true
}

// isDeaf: a world that doesn't tell it hears.
func (p *passer) isDeaf(at int) bool {
	return at < len(p.w.Deaf) && p.w.Deaf[at]
}

// oneMore: more than the size is all one, and told as the size and 1.
func oneMore(count itv.Itv, size int) itv.Itv {
	return itv.Of(min(count.Lo, size)+1, min(count.Hi, size)+1)
}
