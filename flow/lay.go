package flow

import (
	"slices"

	"jetsam/api"
	"jetsam/ast"
	"jetsam/check"
)

// Where each process begins and ends.
const (
	begin = 0
	end   = 1
)

// layer lays a process's statements as edges between nodes.
type layer struct {
	g Graph
}

// lay tells the graph of a process.
func lay(body []check.Stmt) (Graph, api.Errno) {
	l := layer{Graph{Nodes: 2}}
	l.body(body, begin, end)
	if l.full() {
		return Graph{}, api.ErrCount
	}
	// A node is made ahead of all that is laid up to it, so that the heads of
	// what stands within come ahead of lesser ones.
	slices.Sort(l.g.Heads)
	return l.g, api.OK
}

// full: there are too many edges already, and no more of them are of use.
func (l *layer) full() bool {
	return len(l.g.Edges) > api.MaxEdges
}

func (l *layer) node() int {
	l.g.Nodes++
	return l.g.Nodes - 1
}

func (l *layer) edge(e Edge) {
	l.g.Edges = append(l.g.Edges, e)
}

func (l *layer) body(list []check.Stmt, from, to int) {
	if len(list) == 0 {
		l.edge(Edge{From: from, To: to, Kind: Skip})
		return
	}
	for i, st := range list {
		if l.full() {
			return
		}
		next := to
		if i < len(list)-1 {
			next = l.node()
		}
		l.stmt(st, from, next)
		from = next
	}
}

func (l *layer) stmt(st check.Stmt, from, to int) {
	switch st.Kind {
	case ast.Assign:
		l.edge(Edge{From: from, To: to, Kind: Assign, Var: st.Var, E: copyExpr(st.E)})
	case ast.If:
		l.assume(copyCond(st.C), from, l.node(), st.Body, to)
		l.assume(opposite(st.C), from, l.node(), st.Else, to)
	case ast.While:
		l.loop(st, from, to)
	case ast.Send:
		l.edge(Edge{From: from, To: to, Kind: Send, Chan: st.Chan, Tag: st.Tag, E: copyExpr(st.E)})
	case ast.Recv:
		for _, arm := range st.Arms {
			node := l.node()
			l.edge(Edge{From: from, To: node, Kind: Recv, Chan: st.Chan, Tag: arm.Tag, Var: arm.Var})
			l.body(arm.Body, node, to)
		}
	case ast.Assert:
		l.edge(Edge{From: from, To: to, Kind: Assert, C: copyCond(st.C)})
	case ast.Input:
		l.edge(Edge{From: from, To: to, Kind: Input, Var: st.Var})
	}
}

// assume lays an edge that goes on where a comparison holds, and what is done behind it.
func (l *layer) assume(c check.Cond, from, node int, body []check.Stmt, to int) {
	l.edge(Edge{From: from, To: node, Kind: Assume, C: c})
	l.body(body, node, to)
}

func (l *layer) loop(st check.Stmt, head, to int) {
	l.g.Heads = append(l.g.Heads, head)
	node := l.node()
	l.edge(Edge{From: head, To: node, Kind: Assume, C: copyCond(st.C)})
	l.edge(Edge{From: head, To: to, Kind: Assume, C: opposite(st.C)})
	l.body(st.Body, node, head)
}

// opposite holds just where the comparison doesn't.
func opposite(c check.Cond) check.Cond {
	c = copyCond(c)
	c.Op = Not(c.Op)
	return c
}
