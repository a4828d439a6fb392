package conf_test

import (
	"slices"
	"testing"

	"jetsam/api"
	"jetsam/check"
	"jetsam/conf"
	"jetsam/flow"
)

func TestP6_1_Start(t *testing.T) {
	for text, want := range map[string]conf.Conf{
		bareText: {At: []int{0}, Vars: [][]int{{}}},
		baseText: {At: []int{0, 0, 0}, Vars: [][]int{{0, 0}, {0}, {}}, Queues: [][]conf.Msg{{}, {}, {}}, States: []int{0, 0, 0}},
		greatText: {At: make([]int, 4), States: make([]int, 4), Queues: make([][]conf.Msg, 4),
			Vars: [][]int{make([]int, 6), make([]int, 6), make([]int, 6), make([]int, 6)}},
	} {
		s := system(t, text)
		c, err := conf.Start(s)
		if err != api.OK || !same(c, want) {
			t.Error(text, c, err)
		}
		if !conf.Right(s, c) {
			t.Error(text, "not Right")
		}
		back, err := conf.Back(s, conf.Of(c))
		if err != api.OK || !same(back, c) {
			t.Error(text, "Back tells", back, err)
		}
	}
}

func TestP6_1_WrongSystems(t *testing.T) {
	start, _ := conf.Start(system(t, baseText))
	for _, x := range wrongs(t) {
		if c, err := conf.Start(x.s); err != api.ErrArg || !isNothing(c) {
			t.Error(x.what, "Start tells", c, err)
		}
		for _, c := range []conf.Conf{{}, base(), start} {
			if conf.Right(x.s, c) {
				t.Error(x.what, "is Right with", c)
			}
			if back, err := conf.Back(x.s, conf.Of(c)); err != api.ErrArg || !isNothing(back) {
				t.Error(x.what, "Back tells", back, err)
			}
		}
	}
}

type change struct {
	what  string
	right bool
	put   func(c *conf.Conf)
}

func procChanges() []change {
	return []change{
		{"nothing", true, func(c *conf.Conf) {}},
		{"all gone", false, func(c *conf.Conf) { *c = conf.Conf{} }},
		{"fewer processes", false, func(c *conf.Conf) { c.At, c.Vars = c.At[:2], c.Vars[:2] }},
		{"more processes", false, func(c *conf.Conf) { c.At, c.Vars = append(c.At, 0), append(c.Vars, nil) }},
		{"fewer nodes", false, func(c *conf.Conf) { c.At = c.At[:2] }},
		{"more nodes", false, func(c *conf.Conf) { c.At = append(c.At, 0) }},
		{"no nodes", false, func(c *conf.Conf) { c.At = nil }},
		{"least node", true, func(c *conf.Conf) { c.At[0] = 0 }},
		{"greatest node", true, func(c *conf.Conf) { c.At[1] = 4 }},
		{"node below", false, func(c *conf.Conf) { c.At[0] = -1 }},
		{"node above", false, func(c *conf.Conf) { c.At[0] = 4 }},
		{"node above in the second", false, func(c *conf.Conf) { c.At[1] = 5 }},
		{"node above in the last", false, func(c *conf.Conf) { c.At[2] = 2 }},
		{"node far above", false, func(c *conf.Conf) { c.At[2] = 1 << 32 }},
		{"fewer lists of variables", false, func(c *conf.Conf) { c.Vars = c.Vars[:2] }},
		{"more lists of variables", false, func(c *conf.Conf) { c.Vars = append(c.Vars, nil) }},
		{"fewer variables", false, func(c *conf.Conf) { c.Vars[0] = c.Vars[0][:1] }},
		{"more variables", false, func(c *conf.Conf) { c.Vars[1] = append(c.Vars[1], 0) }},
		{"variables of none", false, func(c *conf.Conf) { c.Vars[2] = []int{0} }},
		{"lists of no variables", true, func(c *conf.Conf) { c.Vars[2] = nil }},
		{"greatest number", true, func(c *conf.Conf) { c.Vars[0][1] = 2147483647 }},
		{"least number", true, func(c *conf.Conf) { c.Vars[0][1] = -2147483648 }},
		{"number above", false, func(c *conf.Conf) { c.Vars[0][1] = 2147483648 }},
		{"number below", false, func(c *conf.Conf) { c.Vars[0][1] = -2147483649 }},
		{"number above in the second", false, func(c *conf.Conf) { c.Vars[1][0] = 2147483648 }},
		{"number far above", false, func(c *conf.Conf) { c.Vars[1][0] = 1 << 32 }},
		{"number far below", false, func(c *conf.Conf) { c.Vars[0][0] = -1 << 63 }},
	}
}

func chanChanges() []change {
	return []change{
		{"fewer channels", false, func(c *conf.Conf) { c.Queues, c.States = c.Queues[:2], c.States[:2] }},
		{"more channels", false, func(c *conf.Conf) { c.Queues, c.States = append(c.Queues, nil), append(c.States, 0) }},
		{"fewer queues", false, func(c *conf.Conf) { c.Queues = c.Queues[:2] }},
		{"more queues", false, func(c *conf.Conf) { c.Queues = append(c.Queues, nil) }},
		{"fewer states", false, func(c *conf.Conf) { c.States = c.States[:2] }},
		{"more states", false, func(c *conf.Conf) { c.States = append(c.States, 0) }},
		{"no messages", true, func(c *conf.Conf) { c.Queues = make([][]conf.Msg, 3) }},
		{"fewer messages", true, func(c *conf.Conf) { c.Queues[0] = c.Queues[0][:1] }},
		{"too many messages", false, func(c *conf.Conf) { c.Queues[0] = messages(3, 0) }},
		{"as many as may be", true, func(c *conf.Conf) { c.Queues[1] = messages(3, 0) }},
		{"too many in the second", false, func(c *conf.Conf) { c.Queues[1] = messages(4, 0) }},
		{"too many in the last", false, func(c *conf.Conf) { c.Queues[2] = messages(2, 0) }},
		{"tag below", false, func(c *conf.Conf) { c.Queues[0][1].Tag = -1 }},
		{"least tag", true, func(c *conf.Conf) { c.Queues[0][0].Tag = 0 }},
		{"greatest tag", true, func(c *conf.Conf) { c.Queues[0][1].Tag = 1 }},
		{"tag above", false, func(c *conf.Conf) { c.Queues[0][1].Tag = 2 }},
		{"tag above in the second", false, func(c *conf.Conf) { c.Queues[1][0].Tag = 1 }},
		{"tag above in the last", false, func(c *conf.Conf) { c.Queues[2][0].Tag = 4 }},
		{"greatest number sent", true, func(c *conf.Conf) { c.Queues[0][1].Val = 2147483647 }},
		{"least number sent", true, func(c *conf.Conf) { c.Queues[2][0].Val = -2147483648 }},
		{"number sent above", false, func(c *conf.Conf) { c.Queues[0][1].Val = 2147483648 }},
		{"number sent below", false, func(c *conf.Conf) { c.Queues[2][0].Val = -2147483649 }},
		{"least state", true, func(c *conf.Conf) { c.States[0] = 0 }},
		{"a state between", true, func(c *conf.Conf) { c.States[0] = 1 }},
		{"state below", false, func(c *conf.Conf) { c.States[0] = -1 }},
		{"state above", false, func(c *conf.Conf) { c.States[0] = 3 }},
		{"state without a rule", false, func(c *conf.Conf) { c.States[1] = 1 }},
		{"state below without a rule", false, func(c *conf.Conf) { c.States[1] = -1 }},
		{"state of a rule without moves", false, func(c *conf.Conf) { c.States[2] = 1 }},
	}
}

func TestP6_1_Right(t *testing.T) {
	s := system(t, baseText)
	for _, x := range slices.Concat(procChanges(), chanChanges()) {
		c := base()
		x.put(&c)
		if conf.Right(s, c) != x.right {
			t.Error(x.what, c)
		}
		if other := system(t, greatText); conf.Right(other, c) {
			t.Error(x.what, "Right of another system")
		}
	}
	if g := system(t, greatText); !conf.Right(g, great()) {
		t.Error("great isn't Right")
	}
}

// Of each kind, as many messages as there may be, and one more; and each tag, and one more.
func TestP6_1_Limits(t *testing.T) {
	for kind := api.Block; kind <= api.Lossy; kind++ {
		for size := 1; size <= 16; size++ {
			for n := range 20 {
				c := conf.Conf{At: []int{0, 1}, Vars: make([][]int, 2), Queues: [][]conf.Msg{messages(n, 0)}, States: []int{0}}
				if conf.Right(channels(kind, size, 1), c) != (n <= size) {
					t.Error("kind", kind, "size", size, "messages", n)
				}
			}
		}
	}
	for tags := 1; tags <= 4; tags++ {
		for tag := -2; tag < 9; tag++ {
			c := conf.Conf{At: []int{0, 1}, Vars: make([][]int, 2), Queues: [][]conf.Msg{messages(1, tag)}, States: []int{0}}
			if conf.Right(channels(api.Block, 1, tags), c) != (tag >= 0 && tag < tags) {
				t.Error("tag", tag, "of", tags)
			}
		}
	}
	for state := -2; state < 12; state++ {
		c := great()
		c.States[3] = state
		if conf.Right(system(t, greatText), c) != (state >= 0 && state <= 7) {
			t.Error("state", state)
		}
	}
}

// An edge leaves each node but the end, so that a graph has 401 nodes at most.
func TestP6_1_GreatestNode(t *testing.T) {
	g := flow.Graph{Nodes: 401, Edges: []flow.Edge{{To: 2}}}
	for node := 2; node < g.Nodes; node++ {
		g.Edges = append(g.Edges, flow.Edge{From: node, To: (node + 1) % g.Nodes})
	}
	g.Edges[len(g.Edges)-1].To = 1
	s := flow.Sys{Graphs: []flow.Graph{g}, Vars: []int{0}, Chans: []check.Chan{}}
	for node, want := range map[int]bool{0: true, 1: true, 400: true, 401: false, -1: false} {
		c := conf.Conf{At: []int{node}, Vars: [][]int{nil}}
		if conf.Right(s, c) != want {
			t.Error("node", node)
		}
		if _, err := conf.Back(s, conf.Of(c)); (err == api.OK) != want {
			t.Error("Back of node", node, err)
		}
	}
}

func TestP6_1_Copy(t *testing.T) {
	for _, c := range []conf.Conf{
		{}, base(), great(),
		{At: []int{1 << 40, -3}},
		{Vars: [][]int{nil, {1, 2}, {}, make([]int, 99)}},
		{Queues: [][]conf.Msg{nil, messages(40, -5), {}}},
		{States: []int{9, 8, 7, 6, 5, 4}},
	} {
		if got := conf.Copy(c); !same(got, c) {
			t.Error(got, "is the copy of", c)
		}
	}
}
