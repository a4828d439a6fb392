package flow_test

import (
	"math/rand"
	"reflect"
	"slices"
	"testing"

	"jetsam/api"
	"jetsam/ast"
	"jetsam/check"
	"jetsam/flow"
	"jetsam/sample"
)

// edges: 0 assign, 1 send, 2 assert, 3 input, 4 recv a, 5 skip, 6 recv b,
// 7 skip, 8 and 9 assumes of the loop at node 6, 10 skip in it, 11 and 13
// assumes of the choice at node 9, 12 input and 14 skip in it; 13 nodes.
const rightText = `chan c block 2 from p to q { a , b } ; chan d lossy 3 from q to p { a , b , k } ;
chan e drop 1 from q to p { a , b , k } ; rule d { 0 a 1 ; 1 b 0 ; }
proc p { var x ; var y ; y = 1 - x ; send c . b ( y ) ; assert ( - x <= 2 * x ) ; input y ; recv d { a ( y ) { } b ( x ) { } }
while ( x + 1 < - y ) { } if ( x == - 1 ) { input x ; } } proc q { var z ; }`

type change struct {
	what  string
	right bool
	put   func(s *flow.Sys)
}

func edge(what string, right bool, at int, put func(e *flow.Edge)) change {
	return change{what, right, func(s *flow.Sys) { put(&s.Graphs[0].Edges[at]) }}
}

func graph(what string, right bool, put func(g *flow.Graph)) change {
	return change{what, right, func(s *flow.Sys) { put(&s.Graphs[0]) }}
}

func systemChanges() []change {
	return []change{
		{"nothing", true, func(s *flow.Sys) {}},
		{"too few counts", false, func(s *flow.Sys) { s.Vars = s.Vars[:1] }},
		{"too many counts", false, func(s *flow.Sys) { s.Vars = append(s.Vars, 0) }},
		{"one more of both", true, func(s *flow.Sys) { s.Vars = append(s.Vars, 6); s.Graphs = append(s.Graphs, s.Graphs[1]) }},
		{"one too few of both", false, func(s *flow.Sys) { s.Vars, s.Graphs = s.Vars[:1], s.Graphs[:1] }},
		{"nothing of both", false, func(s *flow.Sys) { *s = flow.Sys{} }},
		{"five of both", false, func(s *flow.Sys) {
			s.Vars = append(s.Vars, 0, 0, 0)
			s.Graphs = append(s.Graphs, s.Graphs[1], s.Graphs[1], s.Graphs[1])
		}},
		{"too few variables", false, func(s *flow.Sys) { s.Vars[0] = 1 }},
		{"seven variables", false, func(s *flow.Sys) { s.Vars[1] = 7 }},
		{"fewer than no variables", false, func(s *flow.Sys) { s.Vars[1] = -1 }},
		{"no variables", true, func(s *flow.Sys) { s.Vars[1] = 0 }},
		{"size", false, func(s *flow.Sys) { s.Chans[0].Size = 17 }},
		{"ends", false, func(s *flow.Sys) { s.Chans[0].To = 0 }},
		{"rule", false, func(s *flow.Sys) { s.Chans[1].Rule[0][0] = 2 }},
		{"fewer channels", false, func(s *flow.Sys) { s.Chans = s.Chans[:1] }},
		{"other channels", false, func(s *flow.Sys) { s.Chans[0], s.Chans[1] = s.Chans[1], s.Chans[0] }},
		{"other process's graph", false, func(s *flow.Sys) { s.Vars[1] = 2; s.Graphs[1] = s.Graphs[0] }},
		{"graphs the other way round", false, func(s *flow.Sys) { s.Vars[1] = 2; slices.Reverse(s.Graphs) }},
		{"edges as such of nothing", false, func(s *flow.Sys) { s.Graphs[1].Edges = nil }},
		{"fault in the last process", false, func(s *flow.Sys) { s.Graphs[1].Edges[0].Var = 1 }},
		{"input in the last process", true, func(s *flow.Sys) { s.Graphs[1].Edges[0].Kind = flow.Input }},
	}
}

func graphChanges() []change {
	return []change{
		graph("no nodes", false, func(g *flow.Graph) { *g = flow.Graph{} }),
		graph("one node", false, func(g *flow.Graph) { *g = flow.Graph{Nodes: 1, Edges: []flow.Edge{{}}, Heads: []int{0}} }),
		graph("two nodes", true, func(g *flow.Graph) { *g = flow.Graph{Nodes: 2, Edges: []flow.Edge{{To: 1}}} }),
		graph("two nodes and a way round by a head", true, func(g *flow.Graph) { *g = flow.Graph{Nodes: 2, Edges: []flow.Edge{{}}, Heads: []int{0}} }),
		graph("two nodes and a way round", false, func(g *flow.Graph) { *g = flow.Graph{Nodes: 2, Edges: []flow.Edge{{}}} }),
		graph("fewer nodes than edges name", false, func(g *flow.Graph) { g.Nodes-- }),
		graph("a node that nothing leaves", false, func(g *flow.Graph) { g.Nodes++ }),
		graph("a node to which nothing comes", true, func(g *flow.Graph) { g.Nodes++; g.Edges = append(g.Edges, flow.Edge{From: 13, To: 3}) }),
		graph("such a node with a way round", false, func(g *flow.Graph) { g.Nodes++; g.Edges = append(g.Edges, flow.Edge{From: 13, To: 13}) }),
		graph("such a node that is a head", true, func(g *flow.Graph) {
			g.Nodes++
			g.Edges = append(g.Edges, flow.Edge{From: 13, To: 13})
			g.Heads = append(g.Heads, 13)
		}),
		graph("no head", false, func(g *flow.Graph) { g.Heads = nil }),
		graph("other head", false, func(g *flow.Graph) { g.Heads = []int{9} }),
		graph("more heads", true, func(g *flow.Graph) { g.Heads = []int{0, 1, 6, 11} }),
		graph("all heads", true, func(g *flow.Graph) { g.Heads = []int{0, 1, 2, 3, 4, 5, 6, 7, 8, 9, 10, 11, 12} }),
		graph("a head twice", false, func(g *flow.Graph) { g.Heads = []int{6, 6} }),
		graph("heads that fall", false, func(g *flow.Graph) { g.Heads = []int{6, 5} }),
		graph("head below", false, func(g *flow.Graph) { g.Heads = []int{-1, 6} }),
		graph("head above", false, func(g *flow.Graph) { g.Heads = []int{6, 13} }),
		graph("an edge twice", false, func(g *flow.Graph) { g.Edges = append(g.Edges, g.Edges[0]) }),
		graph("an edge leaves the end", false, func(g *flow.Graph) { g.Edges = append(g.Edges, flow.Edge{From: 1, To: 0}) }),
		graph("a skip beside a recv", false, func(g *flow.Graph) { g.Edges = append(g.Edges, flow.Edge{From: 5, To: 1}) }),
		graph("a skip beside assumes", false, func(g *flow.Graph) { g.Edges = append(g.Edges, flow.Edge{From: 6, To: 1}) }),
		graph("three assumes", false, func(g *flow.Graph) { g.Edges = append(g.Edges, g.Edges[8]) }),
		graph("three recvs", true, func(g *flow.Graph) {
			g.Edges = append(g.Edges, flow.Edge{From: 5, To: 1, Kind: flow.Recv, Chan: 1, Tag: 2})
		}),
		graph("both recvs on another channel", true, func(g *flow.Graph) { g.Edges[4].Chan, g.Edges[6].Chan = 2, 2 }),
		graph("no edges", false, func(g *flow.Graph) { g.Edges = nil }),
	}
}

func edgeChanges() []change {
	c := cond(ast.Eq, num(1), num(1))
	return []change{
		edge("to below", false, 0, func(e *flow.Edge) { e.To = -1 }),
		edge("to above", false, 0, func(e *flow.Edge) { e.To = 13 }),
		edge("to the end", true, 0, func(e *flow.Edge) { e.To = 1 }),
		edge("from below", false, 0, func(e *flow.Edge) { e.From = -1 }),
		edge("from above", false, 0, func(e *flow.Edge) { e.From = 13 }),
		edge("from another node", false, 0, func(e *flow.Edge) { e.From = 2 }),
		edge("to itself", false, 0, func(e *flow.Edge) { e.To = 0 }),
		edge("back", false, 3, func(e *flow.Edge) { e.To = 0 }),
		edge("kind below", false, 0, func(e *flow.Edge) { e.Kind = -1 }),
		edge("kind above", false, 0, func(e *flow.Edge) { e.Kind = 7 }),
		edge("other kind", false, 0, func(e *flow.Edge) { e.Kind = flow.Input }),
		edge("assume alone", false, 2, func(e *flow.Edge) { e.Kind = flow.Assume }),
		edge("assign to no variable", false, 0, func(e *flow.Edge) { e.Var = 2 }),
		edge("assign to a variable below", false, 0, func(e *flow.Edge) { e.Var = -1 }),
		edge("assign to the other variable", true, 0, func(e *flow.Edge) { e.Var = 0 }),
		edge("assign of nothing", false, 0, func(e *flow.Edge) { e.E = check.Expr{} }),
		edge("assign of no variable", false, 0, func(e *flow.Edge) { e.E = variable(2) }),
		edge("assign with channel", false, 0, func(e *flow.Edge) { e.Chan = 1 }),
		edge("assign with tag", false, 0, func(e *flow.Edge) { e.Tag = 1 }),
		edge("assign with comparison", false, 0, func(e *flow.Edge) { e.C = c }),
		edge("assign with op", false, 0, func(e *flow.Edge) { e.C.Op = 1 }),
		edge("send on the other's channel", false, 1, func(e *flow.Edge) { e.Chan = 1 }),
		edge("send on no channel", false, 1, func(e *flow.Edge) { e.Chan = 3 }),
		edge("send on a channel below", false, 1, func(e *flow.Edge) { e.Chan = -1 }),
		edge("send of no tag", false, 1, func(e *flow.Edge) { e.Tag = 2 }),
		edge("send of the other tag", true, 1, func(e *flow.Edge) { e.Tag = 0 }),
		edge("send with variable", false, 1, func(e *flow.Edge) { e.Var = 1 }),
		edge("send with comparison", false, 1, func(e *flow.Edge) { e.C = c }),
		edge("assert of nothing", false, 2, func(e *flow.Edge) { e.C = check.Cond{} }),
		edge("assert of another op", true, 2, func(e *flow.Edge) { e.C.Op = 6 }),
		edge("assert of no op", false, 2, func(e *flow.Edge) { e.C.Op = 7 }),
		edge("assert with expression", false, 2, func(e *flow.Edge) { e.E = num(0) }),
		edge("assert with variable", false, 2, func(e *flow.Edge) { e.Var = 1 }),
		edge("input of no variable", false, 3, func(e *flow.Edge) { e.Var = 2 }),
		edge("input with tag", false, 3, func(e *flow.Edge) { e.Tag = 1 }),
		edge("input with a kid", false, 3, func(e *flow.Edge) { e.E.Kids = []check.Expr{{}} }),
		edge("recv on the other's channel", false, 4, func(e *flow.Edge) { e.Chan = 0 }),
		edge("recv on two channels", false, 4, func(e *flow.Edge) { e.Chan = 2 }),
		edge("recv on two channels of other tags", false, 6, func(e *flow.Edge) { e.Chan, e.Tag = 2, 2 }),
		edge("recv of no tag", false, 4, func(e *flow.Edge) { e.Tag = 3 }),
		edge("recv of a tag twice", false, 4, func(e *flow.Edge) { e.Tag = 1 }),
		edge("recv of another tag", true, 4, func(e *flow.Edge) { e.Tag = 2 }),
		edge("recv to no variable", false, 4, func(e *flow.Edge) { e.Var = 2 }),
		edge("recv with expression", false, 4, func(e *flow.Edge) { e.E = num(0) }),
		edge("recv with comparison", false, 4, func(e *flow.Edge) { e.C = c }),
		edge("a skip for a recv", false, 6, func(e *flow.Edge) { *e = flow.Edge{From: e.From, To: e.To} }),
		edge("a skip for both", false, 4, func(e *flow.Edge) { *e = flow.Edge{From: e.From, To: e.To} }),
		edge("skip with variable", false, 5, func(e *flow.Edge) { e.Var = 1 }),
		edge("skip with channel", false, 5, func(e *flow.Edge) { e.Chan = -1 }),
		edge("skip with tag", false, 5, func(e *flow.Edge) { e.Tag = 1 }),
		edge("skip with expression", false, 5, func(e *flow.Edge) { e.E = num(0) }),
		edge("skip with an expression's number", false, 5, func(e *flow.Edge) { e.E.Num = 1 }),
		edge("skip with an expression's variable", false, 5, func(e *flow.Edge) { e.E.Var = 1 }),
		edge("skip with an expression's kid", false, 5, func(e *flow.Edge) { e.E.Kids = make([]check.Expr, 1) }),
		edge("skip with no kids", true, 5, func(e *flow.Edge) { e.E.Kids = []check.Expr{} }),
		edge("skip with op", false, 5, func(e *flow.Edge) { e.C.Op = 1 }),
		edge("skip with left", false, 5, func(e *flow.Edge) { e.C.L.Kind = 1 }),
		edge("skip with right", false, 5, func(e *flow.Edge) { e.C.R.Num = 1 }),
		edge("the same op twice", false, 9, func(e *flow.Edge) { e.C.Op = ast.Lt }),
		edge("not the Not", false, 9, func(e *flow.Edge) { e.C.Op = ast.Gt }),
		edge("no op", false, 8, func(e *flow.Edge) { e.C.Op = 0 }),
		edge("another left", false, 9, func(e *flow.Edge) { e.C.L = variable(1) }),
		edge("another right", false, 9, func(e *flow.Edge) { e.C.R = num(1) }),
		edge("another kid", false, 13, func(e *flow.Edge) { e.C.R.Kids[0].Num = 2 }),
		edge("assume with expression", false, 8, func(e *flow.Edge) { e.E = num(0) }),
		edge("assume with variable", false, 8, func(e *flow.Edge) { e.Var = 1 }),
		edge("assume with channel", false, 9, func(e *flow.Edge) { e.Chan = 1 }),
		edge("assert for an assume", false, 9, func(e *flow.Edge) { e.Kind = flow.Assert }),
		edge("both assumes to one node", true, 9, func(e *flow.Edge) { e.To = 8 }),
		edge("round without the head", false, 10, func(e *flow.Edge) { e.To = 10 }),
		edge("round by the head and a skip", true, 10, func(e *flow.Edge) { e.To = 8 }),
		edge("round by a choice", false, 12, func(e *flow.Edge) { e.To = 9 }),
		edge("round by the loop's head", true, 12, func(e *flow.Edge) { e.To = 6 }),
		edge("round by a long way", true, 12, func(e *flow.Edge) { e.To = 0 }),
	}
}

func TestP5_1_Right(t *testing.T) {
	for _, x := range slices.Concat(systemChanges(), graphChanges(), edgeChanges()) {
		s := build(t, rightText)
		x.put(&s)
		if flow.Right(s) != x.right {
			t.Error(x.what, shown(s.Graphs[0]))
		}
		if rightByWords(s) != x.right {
			t.Error(x.what, "otherwise by words", shown(s.Graphs[0]))
		}
	}
}

// A graph of n nodes in a row has n - 1 edges.
func rowOf(n int) flow.Sys {
	g := flow.Graph{Nodes: n, Edges: []flow.Edge{{From: 0, To: 1}}}
	for node := 2; node < n; node++ {
		g.Edges = append(g.Edges, flow.Edge{From: node, To: node - 1})
	}
	return flow.Sys{Graphs: []flow.Graph{g}, Vars: []int{0}}
}

func TestP5_1_RightOfGreatGraphs(t *testing.T) {
	for n, want := range map[int]bool{2: true, 400: true, 401: true, 402: false, 802: false, 803: false} {
		if flow.Right(rowOf(n)) != want {
			t.Error(n, "nodes in a row")
		}
	}
	s := rowOf(401)
	for _, nodes := range []int{-1, 0, 1, 402, 802, 803, 1 << 62} {
		s.Graphs[0].Nodes = nodes
		if flow.Right(s) {
			t.Error(nodes, "nodes, but edges of others")
		}
	}
	wide := rowOf(1 << 14)
	wide.Graphs[0].Nodes = 802
	if flow.Right(wide) {
		t.Error("very many edges")
	}
	many := flow.Sys{Graphs: slices.Repeat(rowOf(3).Graphs, 1<<14), Vars: make([]int, 1<<14)}
	if flow.Right(many) {
		t.Error("very many graphs")
	}
	sums := repeat(num(1), 1<<16, func(e check.Expr) check.Expr { return op(ast.Add, e, num(1)) })
	deep := check.Prog{Procs: []check.Proc{{Body: []check.Stmt{{Kind: ast.While, C: cond(ast.Eq, sums, sums)}}}}}
	if s, err := flow.Build(deep); err != api.OK || !flow.Right(s) {
		t.Error("deep", err)
	}
}

// spoil changes something of a value that is made of structs, lists and numbers.
func spoil(random *rand.Rand, v reflect.Value) {
	switch v.Kind() {
	case reflect.Int:
		v.SetInt([]int64{v.Int() + 1, v.Int() - 1, 0, 1, -1, int64(random.Intn(12)), 1 << 62}[random.Intn(7)])
	case reflect.Struct:
		spoil(random, v.Field(random.Intn(v.NumField())))
	case reflect.Slice:
		spoilList(random, v)
	}
}

func spoilList(random *rand.Rand, v reflect.Value) {
	n := v.Len()
	switch {
	case n == 0 || random.Intn(20) == 0:
		v.Set(reflect.Append(v, reflect.Zero(v.Type().Elem())))
	case random.Intn(20) == 0:
		v.SetLen(n - 1)
	case random.Intn(20) == 0:
		v.Set(reflect.Append(v, v.Index(random.Intn(n))))
	case random.Intn(20) == 0:
		v.Index(random.Intn(n)).Set(v.Index(random.Intn(n)))
	default:
		spoil(random, v.Index(random.Intn(n)))
	}
}

func TestP5_1_RightOfSpoiledSystems(t *testing.T) {
	random := rand.New(rand.NewSource(51))
	told := map[bool]int{}
	for round := 0; round < 10000 && !t.Failed(); round++ {
		s, err := flow.Build(sample.Prog(random.Intn))
		if err != api.OK {
			continue
		}
		for range 1 + random.Intn(2) {
			spoil(random, reflect.ValueOf(&s).Elem())
		}
		want := rightByWords(s)
		if flow.Right(s) != want {
			t.Errorf("%v: Right %v", s, !want)
		}
		told[want]++
	}
	if told[true] < 1000 || told[false] < 1000 {
		t.Error("too few of one kind:", told)
	}
}

// randomGraph: what leaves its nodes is right, where it goes is anyhow.
func randomGraph(random *rand.Rand) flow.Graph {
	g := flow.Graph{Nodes: 2 + random.Intn(7)}
	for node := range g.Nodes {
		if random.Intn(3) == 0 {
			g.Heads = append(g.Heads, node)
		}
		switch {
		case node == 1:
		case random.Intn(2) == 0:
			g.Edges = append(g.Edges, flow.Edge{From: node, To: random.Intn(g.Nodes)})
		default:
			c := cond(1+random.Intn(6), num(1), num(2))
			g.Edges = append(g.Edges, flow.Edge{From: node, To: random.Intn(g.Nodes), Kind: flow.Assume, C: c})
			c.Op = flow.Not(c.Op)
			g.Edges = append(g.Edges, flow.Edge{From: node, To: random.Intn(g.Nodes), Kind: flow.Assume, C: c})
		}
	}
	random.Shuffle(len(g.Edges), func(i, j int) { g.Edges[i], g.Edges[j] = g.Edges[j], g.Edges[i] })
	return g
}

func TestP5_1_EachWayRoundAHead(t *testing.T) {
	random := rand.New(rand.NewSource(50))
	told := map[bool]int{}
	for round := 0; round < 30000 && !t.Failed(); round++ {
		s := flow.Sys{Graphs: []flow.Graph{randomGraph(random)}, Vars: []int{0}}
		want := rightByWords(s)
		if flow.Right(s) != want {
			t.Errorf("%s: Right %v", shown(s.Graphs[0]), !want)
		}
		told[want]++
	}
	if told[true] < 3000 || told[false] < 3000 {
		t.Error("too few of one kind:", told)
	}
}
