package outer

import (
	"jetsam/conf"
	"jetsam/flow"
	"jetsam/num"
	"jetsam/queue"
	"jetsam/rule"
	"jetsam/trans"
)

// isOf: has the result as many of each as the system?
func isOf(s flow.Sys, r Result) bool {
	if len(r.At) != len(s.Graphs) || len(r.Elems) != len(s.Chans) {
		return false
	}
	for proc, g := range s.Graphs {
		if len(r.At[proc]) != g.Nodes {
			return false
		}
		for _, a := range r.At[proc] {
			if len(a.Counts) != len(s.Chans) || len(a.Rules) != len(s.Chans) {
				return false
			}
		}
	}
	for at, c := range s.Chans {
		if len(r.Elems[at].Vals) != c.Tags {
			return false
		}
	}
	return true
}

// The calls below ask of results and configurations that are of one system.

func procsIn(r Result, c conf.Conf) bool {
	for proc, vars := range c.Vars {
		a := at(r, c, proc)
		if trans.Empty(a) || !num.Has(a.N, vars) {
			return false
		}
	}
	return true
}

func chansIn(s flow.Sys, r Result, c conf.Conf) bool {
	for i, ch := range s.Chans {
		a := at(r, c, ch.From)
		if !queue.Has(r.Elems[i], c.Queues[i]) || !rule.Has(a.Rules[i], c.States[i]) || len(c.Queues[i]) > a.Counts[i].Hi {
			return false
		}
	}
	return true
}

// at tells what may be where a process is.
func at(r Result, c conf.Conf, proc int) trans.State {
	return r.At[proc][c.At[proc]]
}
