package outer

import (
	"jetsam/api"
	"jetsam/fix"
	"jetsam/flow"
	"jetsam/itv"
	"jetsam/queue"
	"jetsam/trans"
)

// maxNarrow is how often what was widened is made less.
const maxNarrow = 4

// analyzer goes through a system, round by round.
type analyzer struct {
	sys    flow.Sys
	deaf   []bool
	budget int
	steps  int
}

// round is what all processes may be, where the channels have what elems tell,
// and what they may send then, by channels.
type round struct {
	elems, sent []queue.Elem
	at          [][]trans.State
	alarms      []fix.Alarm
}

// run does one round; false, if that would be too many Steps.
func (a *analyzer) run(elems []queue.Elem) (round, bool) {
	found := round{elems: elems}
	w := trans.World{S: a.sys, Elems: elems, Deaf: a.deaf}
	var sent [][]queue.Elem
	for proc := range a.sys.Graphs {
		fixed, err := fix.Fix(w, proc, a.budget-a.steps)
		if err != api.OK {
			return round{}, false
		}
		a.steps += fixed.Steps
		found.at = append(found.at, fixed.At)
		found.alarms = append(found.alarms, fixed.Alarms...)
		sent = append(sent, fixed.Sent)
	}
	for at, c := range a.sys.Chans {
		found.sent = append(found.sent, sent[c.From][at])
	}
	return found, true
}

// widen goes on till nothing more is sent than the channels have.
func (a *analyzer) widen() (round, bool) {
	var elems []queue.Elem
	for _, c := range a.sys.Chans {
		elems = append(elems, queue.None(c))
	}
	for {
		found, ok := a.run(elems)
		if !ok {
			return round{}, false
		}
		elems = a.widened(found)
		if within(elems, found.elems) {
			return found, true
		}
	}
}

// widened tells what the channels have, with what was sent. There are never
// more messages than there is room for.
func (a *analyzer) widened(found round) []queue.Elem {
	var elems []queue.Elem
	for at, c := range a.sys.Chans {
		old := found.elems[at]
		wide := queue.Widen(old, queue.Join(old, found.sent[at]))
		wide.Len = itv.Meet(wide.Len, itv.Of(0, c.Size))
		elems = append(elems, wide)
	}
	return elems
}

// narrow takes just what was sent for what the channels have, as long as no
// more than that is sent then, too.
func (a *analyzer) narrow(found round) (round, bool) {
	for range maxNarrow {
		if within(found.elems, found.sent) && within(found.sent, found.elems) {
			break
		}
		next, ok := a.run(found.sent)
		if !ok {
			return round{}, false
		}
		if !within(next.sent, next.elems) {
			break
		}
		found = next
	}
	return found, true
}

// within: has each of the second ones all that the first one has?
func within(a, b []queue.Elem) bool {
	for at, e := range a {
		if !queue.Within(e, b[at]) {
			return false
		}
	}
	return true
}
