package flow_test

import (
	"fmt"
	"slices"

	"jetsam/ast"
	"jetsam/check"
	"jetsam/flow"
)

// rightByWords asks what flow.Right asks, one after the other as the chapter
// has it.
func rightByWords(s flow.Sys) bool {
	if len(s.Graphs) != len(s.Vars) {
		return false
	}
	p := check.Prog{Chans: s.Chans}
	for _, vars := range s.Vars {
		p.Procs = append(p.Procs, check.Proc{Vars: vars})
	}
	if !check.Right(p) {
		return false
	}
	for i, g := range s.Graphs {
		if g.Nodes < 2 || g.Nodes > 802 || len(g.Edges) > 400 {
			return false
		}
		for j, head := range g.Heads {
			if head < 0 || head >= g.Nodes || slices.Contains(g.Heads[:j], head) {
				return false
			}
		}
		if !slices.IsSorted(g.Heads) {
			return false
		}
		for _, e := range g.Edges {
			if e.From < 0 || e.From >= g.Nodes || e.To < 0 || e.To >= g.Nodes || !hasItsOwn(s, i, e) {
				return false
			}
		}
		for node := range g.Nodes {
			if !leavesAsItMust(g, node) || !slices.Contains(g.Heads, node) && comesBack(g, node) {
				return false
			}
		}
	}
	return true
}

func hasItsOwn(s flow.Sys, proc int, e flow.Edge) bool {
	only := flow.Edge{From: e.From, To: e.To, Kind: e.Kind}
	isVar := e.Var >= 0 && e.Var < s.Vars[proc]
	isTag := e.Chan >= 0 && e.Chan < len(s.Chans) && e.Tag >= 0 && e.Tag < s.Chans[e.Chan].Tags
	isCond := e.C.Op >= 1 && e.C.Op <= 6 && isExpr(e.C.L, s.Vars[proc]) && isExpr(e.C.R, s.Vars[proc])
	right := true
	switch e.Kind {
	case flow.Skip:
	case flow.Assign:
		only.Var, only.E = e.Var, e.E
		right = isVar && isExpr(e.E, s.Vars[proc])
	case flow.Assume, flow.Assert:
		only.C = e.C
		right = isCond
	case flow.Send:
		only.Chan, only.Tag, only.E = e.Chan, e.Tag, e.E
		right = isTag && s.Chans[e.Chan].From == proc && isExpr(e.E, s.Vars[proc])
	case flow.Recv:
		only.Chan, only.Tag, only.Var = e.Chan, e.Tag, e.Var
		right = isTag && s.Chans[e.Chan].To == proc && isVar
	case flow.Input:
		only.Var = e.Var
		right = isVar
	default:
		return false
	}
	return right && fmt.Sprint(e) == fmt.Sprint(only)
}

func isExpr(e check.Expr, vars int) bool {
	only := check.Expr{Kind: e.Kind, Kids: e.Kids}
	want := 2
	switch e.Kind {
	case ast.Num:
		only.Num, want = e.Num, 0
		if e.Num < 0 || e.Num > 2147483647 {
			return false
		}
	case ast.Var:
		only.Var, want = e.Var, 0
		if e.Var < 0 || e.Var >= vars {
			return false
		}
	case ast.Neg:
		want = 1
	}
	for _, kid := range e.Kids {
		if !isExpr(kid, vars) {
			return false
		}
	}
	return e.Kind >= 1 && e.Kind <= 8 && len(e.Kids) == want && fmt.Sprint(e) == fmt.Sprint(only)
}

func leavesAsItMust(g flow.Graph, node int) bool {
	var out []flow.Edge
	kinds, channels, tags := map[int]int{}, map[int]int{}, map[int]int{}
	for _, e := range g.Edges {
		if e.From == node {
			out = append(out, e)
			kinds[e.Kind]++
			channels[e.Chan]++
			tags[e.Tag]++
		}
	}
	switch {
	case node == 1:
		return len(out) == 0
	case len(out) == 0:
		return false
	case kinds[flow.Recv] > 0:
		return kinds[flow.Recv] == len(out) && len(channels) == 1 && len(tags) == len(out)
	case kinds[flow.Assume] > 0:
		opposite := map[int]int{1: 2, 2: 1, 3: 6, 6: 3, 4: 5, 5: 4}
		return len(out) == 2 && kinds[flow.Assume] == 2 && out[1].C.Op == opposite[out[0].C.Op] &&
			fmt.Sprint(out[0].C.L, out[0].C.R) == fmt.Sprint(out[1].C.L, out[1].C.R)
	}
	return len(out) == 1
}

// comesBack: is there a way from a node back to it, by nodes that are no heads?
func comesBack(g flow.Graph, node int) bool {
	seen := make([]bool, g.Nodes)
	next := []int{node}
	for len(next) > 0 {
		from := next[0]
		next = next[1:]
		for _, e := range g.Edges {
			if e.From != from || slices.Contains(g.Heads, e.To) {
				continue
			}
			if e.To == node {
				return true
			}
			if !seen[e.To] {
				seen[e.To] = true
				next = append(next, e.To)
			}
		}
	}
	return false
}
