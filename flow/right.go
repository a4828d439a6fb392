package flow

import (
	"slices"

	"jetsam/api"
	"jetsam/ast"
	"jetsam/check"
)

// maxNodes is how many nodes a graph may have.
const maxNodes = 802

// edgesRight tells whether the channels and the counts are ones of a system,
// and each edge has what a statement of its kind has, and nothing else.
func edgesRight(s Sys) bool {
	p := check.Prog{Chans: s.Chans}
	for i, g := range s.Graphs {
		proc := check.Proc{Vars: s.Vars[i]}
		for _, e := range g.Edges {
			if e.Kind != Skip {
				proc.Body = append(proc.Body, statement(e))
			} else if !isBare(e) {
				return false
			}
		}
		p.Procs = append(p.Procs, proc)
	}
	return check.Right(p)
}

// statement tells one that is check.Right just if the edge has what it must.
// All that the edge has is handed on, for there nothing may be too much.
func statement(e Edge) check.Stmt {
	st := check.Stmt{Var: e.Var, Chan: e.Chan, Tag: e.Tag, E: e.E, C: e.C}
	switch e.Kind {
	case Assign:
		st.Kind = ast.Assign
	case Send:
		st.Kind = ast.Send
	case Recv:
		st.Kind = ast.Recv
		st.Arms = []check.Arm{{Tag: e.Tag, Var: e.Var}}
		st.Tag, st.Var = 0, 0
	case Assume, Assert:
		st.Kind = ast.Assert
	case Input:
		st.Kind = ast.Input
	}
	return st
}

// isBare: has it nothing but its nodes?
func isBare(e Edge) bool {
	return e.Var == 0 && e.Chan == 0 && e.Tag == 0 && isNoExpr(e.E) &&
		e.C.Op == 0 && isNoExpr(e.C.L) && isNoExpr(e.C.R)
}

func isNoExpr(e check.Expr) bool {
	return e.Kind == 0 && e.Num == 0 && e.Var == 0 && len(e.Kids) == 0
}

// shapeRight tells whether a graph is one, whatever its edges have.
func shapeRight(g Graph) bool {
	if g.Nodes < 2 || g.Nodes > maxNodes || len(g.Edges) > api.MaxEdges || !headsRight(g) {
		return false
	}
	leaving := make([][]Edge, g.Nodes)
	for _, e := range g.Edges {
		if !isNode(g, e.From) || !isNode(g, e.To) {
			return false
		}
		leaving[e.From] = append(leaving[e.From], e)
	}
	for node, edges := range leaving {
		if !leavingRight(node, edges) {
			return false
		}
	}
	return loopsHaveHeads(g, leaving)
}

func headsRight(g Graph) bool {
	for i, head := range g.Heads {
		if !isNode(g, head) || i > 0 && head <= g.Heads[i-1] {
			return false
		}
	}
	return true
}

func isNode(g Graph, node int) bool {
	return node >= 0 && node < g.Nodes
}

// leavingRight: of all edges that leave a node.
func leavingRight(node int, edges []Edge) bool {
	if node == end || len(edges) == 0 {
		return node == end && len(edges) == 0
	}
	switch edges[0].Kind {
	case Assume:
		return len(edges) == 2 && edges[1].Kind == Assume && areOpposite(edges[0].C, edges[1].C)
	case Recv:
		return receiveRight(edges)
	}
	return len(edges) == 1
}

// receiveRight: all of one channel, each of another tag.
func receiveRight(edges []Edge) bool {
	for i, e := range edges {
		sameTag := func(ahead Edge) bool { return ahead.Tag == e.Tag }
		if e.Kind != Recv || e.Chan != edges[0].Chan || slices.ContainsFunc(edges[:i], sameTag) {
			return false
		}
	}
	return true
}

func areOpposite(a, b check.Cond) bool {
	return b.Op == Not(a.Op) && sameExpr(a.L, b.L) && sameExpr(a.R, b.R)
}

func sameExpr(a, b check.Expr) bool {
	return a.Kind == b.Kind && a.Num == b.Num && a.Var == b.Var &&
		slices.EqualFunc(a.Kids, b.Kids, sameExpr)
}

// loopsHaveHeads takes away the heads, and then, again and again, the nodes to
// which no edge comes from a node that is left: a way round without a head
// would stay.
func loopsHaveHeads(g Graph, leaving [][]Edge) bool {
	coming := make([]int, g.Nodes)
	for _, e := range g.Edges {
		coming[e.To]++
	}
	var taken []int
	for node := range g.Nodes {
		if coming[node] == 0 || isHead(g, node) {
			taken = append(taken, node)
		}
	}
	for i := 0; i < len(taken); i++ {
		for _, e := range leaving[taken[i]] {
			coming[e.To]--
			if coming[e.To] == 0 && !isHead(g, e.To) {
				taken = append(taken, e.To)
			}
		}
	}
	return len(taken) == g.Nodes
}

func isHead(g Graph, node int) bool {
	_, found := slices.BinarySearch(g.Heads, node)
	return found
}
