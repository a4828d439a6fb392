package sample

import (
	"jetsam/api"
	"jetsam/check"
	"jetsam/conf"
	"jetsam/flow"
	"jetsam/parse"
)

// Text makes the system of a text, as graphs.
func Text(text string) (flow.Sys, api.Errno) {
	tree, _, err := parse.Parse(text)
	if err != api.OK {
		return flow.Sys{}, err
	}
	p, err := check.Check(tree)
	if err != api.OK {
		return flow.Sys{}, err
	}
	return flow.Build(p)
}

// Sys makes a system that is flow.Right, by what pick chooses, and tells also
// what it was made of.
func Sys(pick func(n int) int) (flow.Sys, check.Prog) {
	return built(Prog(pick))
}

// CalmSys makes likewise one of Calm's.
func CalmSys(pick func(n int) int) (flow.Sys, check.Prog) {
	return built(Calm(pick))
}

func built(p check.Prog) (flow.Sys, check.Prog) {
	s, err := flow.Build(p)
	if err != api.OK {
		// Some process is too long: then none does anything.
		for i := range p.Procs {
			p.Procs[i].Body = nil
		}
		s, _ = flow.Build(p)
	}
	return s, p
}

// Conf makes a configuration that is conf.Right, of a system that is
// flow.Right, by what pick chooses.
func Conf(s flow.Sys, pick func(n int) int) conf.Conf {
	var c conf.Conf
	for i, g := range s.Graphs {
		c.At = append(c.At, pick(g.Nodes))
		var vars []int
		for range s.Vars[i] {
			vars = append(vars, Number(pick))
		}
		c.Vars = append(c.Vars, vars)
	}
	for _, ch := range s.Chans {
		c.Queues = append(c.Queues, anyMessages(ch, pick))
		c.States = append(c.States, pick(max(len(ch.Rule), 1)))
	}
	return c
}

// anyMessages makes none, as many as there is room for, or any count, each often.
func anyMessages(ch check.Chan, pick func(n int) int) []conf.Msg {
	many := []int{0, ch.Size, pick(ch.Size + 1)}[pick(3)]
	var list []conf.Msg
	for range many {
		list = append(list, conf.Msg{Tag: pick(ch.Tags), Val: Number(pick)})
	}
	return list
}

// Number makes one that a variable may be: most often a small one, but also
// those about the least and the greatest one.
func Number(pick func(n int) int) int {
	switch pick(6) {
	case 0:
		return api.MaxInt - pick(3)
	case 1:
		return api.MinInt + pick(3)
	}
	return pick(21) - 10
}
