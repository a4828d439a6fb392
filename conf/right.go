package conf

import (
	"jetsam/api"
	"jetsam/check"
	"jetsam/flow"
)

// The calls of this file ask of systems that are flow.Right.

func procsRight(s flow.Sys, c Conf) bool {
	if len(c.At) != len(s.Graphs) || len(c.Vars) != len(s.Graphs) {
		return false
	}
	for i, g := range s.Graphs {
		if !isPlace(c.At[i], g.Nodes) || !varsRight(c.Vars[i], s.Vars[i]) {
			return false
		}
	}
	return true
}

func varsRight(vars []int, count int) bool {
	for _, n := range vars {
		if !isNumber(n) {
			return false
		}
	}
	return len(vars) == count
}

func chansRight(s flow.Sys, c Conf) bool {
	if len(c.Queues) != len(s.Chans) || len(c.States) != len(s.Chans) {
		return false
	}
	for i, ch := range s.Chans {
		if !queueRight(ch, c.Queues[i]) || !stateRight(ch, c.States[i]) {
			return false
		}
	}
	return true
}

func queueRight(ch check.Chan, queue []Msg) bool {
	for _, m := range queue {
		if !isPlace(m.Tag, ch.Tags) || !isNumber(m.Val) {
			return false
		}
	}
	return len(queue) <= ch.Size
}

// stateRight: without a rule a channel stays in state 0.
func stateRight(ch check.Chan, state int) bool {
	return isPlace(state, max(len(ch.Rule), 1))
}

// isPlace: of so many.
func isPlace(at, count int) bool {
	return at >= 0 && at < count
}

func isNumber(n int) bool {
	return n >= api.MinInt && n <= api.MaxInt
}
