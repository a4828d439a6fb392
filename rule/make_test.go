package rule_test

import (
	"math"
	"math/rand"
	"testing"

	"jetsam/check"
	"jetsam/rule"
	"jetsam/sample"
)

// move is of a rule: from which state by which tag to which one.
type move struct{ from, tag, to int }

// ruled makes a channel with a rule of these moves, of as many states as they
// name.
func ruled(tags int, moves ...move) check.Chan {
	c := check.Chan{Size: 1, To: 1, Tags: tags}
	states := 1
	for _, m := range moves {
		states = max(states, m.from+1, m.to+1)
	}
	for range states {
		row := make([]int, tags)
		for tag := range row {
			row[tag] = -1
		}
		c.Rule = append(c.Rule, row)
	}
	for _, m := range moves {
		c.Rule[m.from][m.tag] = m.to
	}
	return c
}

// set has these states.
func set(states ...int) rule.Set {
	bits := [8]rule.Set{1, 2, 4, 8, 16, 32, 64, 128}
	var s rule.Set
	for _, state := range states {
		s |= bits[state]
	}
	return s
}

// right tells whether a channel is one of a system that is check.Right.
func right(c check.Chan) bool {
	return check.Right(check.Prog{Chans: []check.Chan{c}, Procs: make([]check.Proc, 4)})
}

// withRule makes a channel with a rule.
func withRule(t *testing.T, random *rand.Rand) check.Chan {
	t.Helper()
	for range 1000 {
		if c := sample.Chan(random.Intn); len(c.Rule) > 0 {
			return c
		}
	}
	t.Fatal("no channel has a rule")
	return check.Chan{}
}

// stepped tells by hand, state by state, what Step must tell of a rule.
func stepped(c check.Chan, s rule.Set, tag int) (rule.Set, bool) {
	var behind [8]bool
	broken := false
	for state, has := range states(s) {
		switch {
		case !has:
		case state >= len(c.Rule) || tag < 0 || tag >= c.Tags || c.Rule[state][tag] == -1:
			broken = true
		default:
			behind[c.Rule[state][tag]] = true
		}
	}
	var list []int
	for state, has := range behind {
		if has {
			list = append(list, state)
		}
	}
	return set(list...), broken
}

// states tells of each whether it is there.
func states(s rule.Set) [8]bool {
	var list [8]bool
	for state, n := 0, int(s); n > 0; state, n = state+1, n/2 {
		list[state] = n%2 == 1
	}
	return list
}

// beyond are tags that there aren't, of so many.
func beyond(tags int) []int {
	return []int{math.MinInt, math.MinInt + 1, -1 << 32, -2, -1, tags, tags + 1, tags + 8, tags + 64, 1 << 32, math.MaxInt - 1, math.MaxInt}
}
