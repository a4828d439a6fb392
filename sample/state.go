package sample

import (
	"jetsam/check"
	"jetsam/flow"
	"jetsam/itv"
	"jetsam/rule"
	"jetsam/trans"
)

// World makes what may be in the channels of a system that is flow.Right, by
// what pick chooses. It is told truly who is deaf.
func World(s flow.Sys, pick func(n int) int) trans.World {
	w := trans.World{S: s, Deaf: trans.Deaf(s)}
	for _, c := range s.Chans {
		w.Elems = append(w.Elems, Elem(c, pick))
	}
	return w
}

// State makes one of a process, by what pick chooses, at times empty.
func State(s flow.Sys, proc int, pick func(n int) int) trans.State {
	n := Num(s.Vars[proc], pick)
	if n.None {
		return trans.None(s, proc)
	}
	a := trans.State{N: n}
	for _, c := range s.Chans {
		a.Counts = append(a.Counts, count(c, pick))
		a.Rules = append(a.Rules, states(c, pick))
	}
	return a
}

// count makes how often something may have been sent: more than the size is one.
func count(c check.Chan, pick func(n int) int) itv.Itv {
	ends := []int{pick(c.Size + 2), pick(c.Size + 2), c.Size - 1, c.Size}
	lo, hi := ends[pick(4)], ends[pick(4)]
	return itv.Itv{Lo: min(lo, hi), Hi: max(lo, hi)}
}

// states makes one at least, of those that the rule has.
func states(c check.Chan, pick func(n int) int) rule.Set {
	many := max(len(c.Rule), 1)
	return rule.Set(1<<pick(many) | pick(1<<many))
}
