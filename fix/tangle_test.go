package fix_test

import (
	"math/rand"
	"strings"
	"testing"

	"jetsam/api"
	"jetsam/check"
	"jetsam/fix"
	"jetsam/flow"
	"jetsam/sample"
	"jetsam/trans"
)

// tangled makes a system of two processes. The first one's edges lead from
// anywhere to anywhere, and each node is a head that must be one, or all are.
func tangled(random *rand.Rand) flow.Sys {
	s := flow.Sys{Vars: []int{1 + random.Intn(6), 1}}
	for range 1 + random.Intn(4) {
		c := sample.Chan(random.Intn)
		c.From, c.To = 0, 1
		s.Chans = append(s.Chans, c)
	}
	g := flow.Graph{Nodes: 2 + random.Intn(9)}
	for node := range g.Nodes {
		if node != 1 {
			g.Edges = append(g.Edges, leaving(s, g, node, random)...)
		}
	}
	random.Shuffle(len(g.Edges), func(i, j int) { g.Edges[i], g.Edges[j] = g.Edges[j], g.Edges[i] })
	s.Graphs = []flow.Graph{g, taking(s, random)}
	for node := 0; !flow.Right(s) || node < g.Nodes && random.Intn(5) == 0; node++ {
		s.Graphs[0].Heads = append(s.Graphs[0].Heads, node)
	}
	return s
}

// leaving makes the edges that leave a node.
func leaving(s flow.Sys, g flow.Graph, node int, random *rand.Rand) []flow.Edge {
	e := flow.Edge{From: node, To: random.Intn(g.Nodes), Var: random.Intn(s.Vars[0])}
	more := check.Expr{Kind: 4 + random.Intn(2), Kids: []check.Expr{{Kind: 2, Var: random.Intn(s.Vars[0])}, {Kind: 1, Num: random.Intn(3)}}}
	switch random.Intn(7) {
	case 0, 1:
		e.Kind, e.E = flow.Assign, more
	case 2:
		e.Kind, e.E = flow.Send, more
		e.Chan, e.Var = random.Intn(len(s.Chans)), 0
		e.Tag = random.Intn(s.Chans[e.Chan].Tags)
	case 3:
		e.Kind = flow.Input
	case 4:
		e.Var = 0
	default:
		e.Kind, e.Var, e.C = flow.Assume, 0, sample.Cond(s.Vars[0], random.Intn)
		if random.Intn(2) == 0 {
			e.C = check.Cond{Op: 1 + random.Intn(6), L: more, R: check.Expr{Kind: 1, Num: random.Intn(9)}}
		}
		other := e
		other.To, other.C.Op = random.Intn(g.Nodes), flow.Not(e.C.Op)
		return []flow.Edge{e, other}
	}
	return []flow.Edge{e}
}

// taking makes a process that takes from one channel, or does nothing.
func taking(s flow.Sys, random *rand.Rand) flow.Graph {
	g := flow.Graph{Nodes: 2, Edges: []flow.Edge{{From: 0, To: 1}}}
	if at := random.Intn(len(s.Chans) + 1); at < len(s.Chans) {
		g = flow.Graph{Nodes: 2, Heads: []int{0}}
		for tag := range s.Chans[at].Tags {
			g.Edges = append(g.Edges, flow.Edge{From: 0, To: random.Intn(2), Kind: flow.Recv, Chan: at, Tag: tag})
		}
	}
	return g
}

func TestP15_3_BoundIsEnough(t *testing.T) {
	random := rand.New(rand.NewSource(164))
	most := 0
	for range 8000 {
		s := tangled(random)
		w := sample.World(s, random.Intn)
		f, err := fix.Fix(w, 0, fix.Bound(w, 0))
		if err != api.OK {
			t.Fatal(w, err)
		}
		most = max(most, f.Steps/len(s.Graphs[0].Edges))
	}
	if most < 15 {
		t.Error("few rounds:", most)
	}
}

// As many loops in one another as there may be, and one behind the other, in
// which all variables and counts go up one by one.
func TestP15_3_BoundIsEnoughOfMuch(t *testing.T) {
	const ahead = "chan c lossy 16 from p to q { a , b } ; chan d drop 16 from p to q { a , b } ; " +
		"rule c { 0 a 1 ; 1 a 2 ; 2 a 3 ; 3 a 4 ; 4 a 5 ; 5 a 6 ; 6 a 7 ; 7 a 7 ; 0 b 0 ; 1 b 1 ; 2 b 2 ; 3 b 3 ; 4 b 4 ; 5 b 5 ; 6 b 6 ; 7 b 0 ; } " +
		"rule d { 0 b 7 ; 7 b 5 ; 5 b 3 ; 3 b 1 ; 1 b 6 ; 6 b 4 ; 4 b 2 ; 2 b 0 ; } " +
		"proc q { } proc p { var a ; var b ; var c ; var d ; var e ; var f ; "
	const body = "a = b + 1 ; b = c - 1 ; if ( d < e ) { send c . a ( a ) ; d = f ; } else { send d . b ( b ) ; e = e + 1 ; } f = a - d ; send c . b ( f ) ; input c ; "
	for _, text := range []string{
		strings.Repeat("while ( a < f ) { ", 24) + "a = a + 1 ; " + strings.Repeat("} ", 24),
		strings.Repeat("while ( a < b ) { "+body, 20) + strings.Repeat("} ", 20),
		strings.Repeat("while ( a < b ) { ", 12) + body + strings.Repeat("} "+body, 12),
		strings.Repeat("while ( b > a ) { "+body+"} ", 20),
		strings.Repeat("while ( b + 3 > a ) { "+body+"while ( a != 3 ) { "+body+"} } ", 10),
	} {
		w := quiet(system(t, ahead+"input b ; input f ; "+text+"}"))
		f := fixed(t, w, 1)
		if !fix.Stable(w, 1, f.At) || trans.Empty(f.At[1]) || f.Steps < 4*len(w.S.Graphs[1].Edges) {
			t.Error(text, f.Steps, fix.Bound(w, 1))
		}
	}
}

// The longest way there may be, each of whose nodes but one comes to one of a
// lesser number: so each round tells one node more.
func TestP15_3_BoundIsEnoughBackwards(t *testing.T) {
	g := flow.Graph{Nodes: 401}
	at := 0
	for node := 400; node > 0; node-- {
		g.Edges = append(g.Edges, flow.Edge{From: at, To: node})
		at = node
	}
	w := trans.World{S: flow.Sys{Graphs: []flow.Graph{g}, Vars: []int{0}}}
	if !flow.Right(w.S) {
		t.Fatal("can't be gone through")
	}
	if f := fixed(t, w, 0); f.Steps != 401*400 || trans.Empty(f.At[1]) {
		t.Error(f.Steps)
	}
}
