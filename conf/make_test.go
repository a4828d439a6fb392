package conf_test

import (
	"fmt"
	"slices"
	"testing"

	"jetsam/api"
	"jetsam/check"
	"jetsam/conf"
	"jetsam/flow"
	"jetsam/sample"
)

// baseText: nodes 0 to 3 of p, 0 to 4 of q (two arms), 0 and 1 of r.
const baseText = `chan c block 2 from p to q { a , b } ; chan d drop 3 from q to p { a } ; chan e lossy 1 from p to r { a , b , k , l } ;
rule c { 0 a 2 ; 2 b 0 ; } rule e { }
proc p { var x ; var y ; x = 1 ; send c . a ( x ) ; input y ; }
proc q { var z ; recv c { a ( z ) { } b ( z ) { } } input z ; }
proc r { }`

// greatText has as much of all as there may be.
const greatText = `chan c0 block 16 from p0 to p1 { a , b , k , l } ; chan c1 drop 16 from p1 to p2 { a , b , k , l } ;
chan c2 lossy 16 from p2 to p3 { a , b , k , l } ; chan c3 block 16 from p3 to p0 { a , b , k , l } ;
rule c0 { 7 l 7 ; } rule c1 { 0 a 7 ; } rule c2 { 7 a 0 ; } rule c3 { 7 b 1 ; }
proc p0 { var a ; var b ; var k ; var d ; var e ; var f ; } proc p1 { var a ; var b ; var k ; var d ; var e ; var f ; }
proc p2 { var a ; var b ; var k ; var d ; var e ; var f ; } proc p3 { var a ; var b ; var k ; var d ; var e ; var f ; }`

// bareText has as little as there may be.
const bareText = "proc p { }"

func system(t *testing.T, text string) flow.Sys {
	t.Helper()
	s, err := sample.Text(text)
	if err != api.OK {
		t.Fatalf("%q: %d", text, err)
	}
	return s
}

// base is a configuration of baseText in which nothing is as at the start.
func base() conf.Conf {
	return conf.Conf{
		At:     []int{3, 1, 1},
		Vars:   [][]int{{5, -6}, {7}, {}},
		Queues: [][]conf.Msg{{{Tag: 1, Val: 8}, {Tag: 0, Val: -9}}, {{Tag: 0, Val: 10}}, {{Tag: 3, Val: 11}}},
		States: []int{2, 0, 0},
	}
}

// great is a configuration of greatText that fills all of a key.
func great() conf.Conf {
	var c conf.Conf
	for i := range 4 {
		c.At = append(c.At, 1)
		c.States = append(c.States, 7-i)
		var vars []int
		for j := range 6 {
			vars = append(vars, 100*i+j+1)
		}
		c.Vars = append(c.Vars, vars)
		var queue []conf.Msg
		for j := range 16 {
			queue = append(queue, conf.Msg{Tag: (i + j) % 4, Val: -100*i - j - 1})
		}
		c.Queues = append(c.Queues, queue)
	}
	return c
}

type wrong struct {
	what string
	s    flow.Sys
}

// wrongs are systems that aren't flow.Right.
func wrongs(t *testing.T) []wrong {
	list := []wrong{{"nothing", flow.Sys{}}, {"counts alone", flow.Sys{Vars: []int{1}}}}
	add := func(what string, put func(s *flow.Sys)) {
		s := system(t, baseText)
		put(&s)
		if flow.Right(s) {
			t.Error("flow.Right:", what)
		}
		list = append(list, wrong{what, s})
	}
	add("fewer counts", func(s *flow.Sys) { s.Vars = s.Vars[:2] })
	add("fewer graphs", func(s *flow.Sys) { s.Graphs = s.Graphs[:2] })
	add("count below 0", func(s *flow.Sys) { s.Vars[2] = -1 })
	add("seven variables", func(s *flow.Sys) { s.Vars[2] = 7 })
	add("very many variables", func(s *flow.Sys) { s.Vars[2] = 1 << 62 })
	add("no room", func(s *flow.Sys) { s.Chans[2].Size = 0 })
	add("too much room", func(s *flow.Sys) { s.Chans[2].Size = 17 })
	add("a rule's move to no state", func(s *flow.Sys) { s.Chans[0].Rule[0][0] = 3 })
	add("a head too many", func(s *flow.Sys) { s.Graphs[0].Heads = []int{4} })
	add("no edges", func(s *flow.Sys) { s.Graphs[1].Edges = nil })
	add("fewer nodes", func(s *flow.Sys) { s.Graphs[0].Nodes-- })
	add("five processes", func(s *flow.Sys) {
		s.Vars = append(s.Vars, 0, 0)
		s.Graphs = append(s.Graphs, s.Graphs[2], s.Graphs[2])
	})
	add("five channels", func(s *flow.Sys) { s.Chans = append(s.Chans, s.Chans[1], s.Chans[1]) })
	return list
}

// same: nil and empty lists are one, and so they are printed.
func same(a, b conf.Conf) bool { return fmt.Sprint(a) == fmt.Sprint(b) }

func isNothing(c conf.Conf) bool { return same(c, conf.Conf{}) }

// messages: so many, of one tag.
func messages(n, tag int) []conf.Msg {
	return slices.Repeat([]conf.Msg{{Tag: tag, Val: 1}}, n)
}

// channels: of one process to another one, without rules.
func channels(kind, size, tags int) flow.Sys {
	g := flow.Graph{Nodes: 2, Edges: []flow.Edge{{To: 1}}}
	return flow.Sys{
		Chans:  []check.Chan{{Kind: kind, Size: size, To: 1, Tags: tags}},
		Graphs: []flow.Graph{g, g},
		Vars:   []int{0, 0},
	}
}
