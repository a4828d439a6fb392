package outer_test

import (
	"math/rand"
	"testing"

	"jetsam/api"
	"jetsam/fix"
	"jetsam/flow"
	"jetsam/itv"
	"jetsam/outer"
	"jetsam/queue"
	"jetsam/trans"
)

// told is what came of a round: its result, and what was sent, by channels.
type told struct {
	outer.Result
	sent []queue.Elem
}

// roundInWords does one round, as the chapter says it.
func roundInWords(t *testing.T, s flow.Sys, elems []queue.Elem) told {
	t.Helper()
	a := told{Result: outer.Result{Elems: elems}, sent: make([]queue.Elem, len(s.Chans))}
	for proc := range s.Graphs {
		w := trans.World{S: s, Elems: elems, Deaf: trans.Deaf(s)}
		f, err := fix.Fix(w, proc, fix.Bound(w, proc))
		if err != api.OK {
			t.Fatal(w, err)
		}
		a.At = append(a.At, f.At)
		a.Alarms = append(a.Alarms, f.Alarms...)
		a.Steps += f.Steps
		for at, c := range s.Chans {
			if c.From == proc {
				a.sent[at] = f.Sent[at]
			}
		}
	}
	return a
}

// counts tells how many rounds there were: those that widen, those that count
// behind these, and those that don't count.
type counts struct {
	wide, narrow, vain int
}

// inWords does all the rounds.
func inWords(t *testing.T, s flow.Sys) (outer.Result, counts) {
	t.Helper()
	var elems []queue.Elem
	for _, c := range s.Chans {
		elems = append(elems, queue.None(c))
	}
	var n counts
	var now told
	steps := 0
	for changed := true; changed; n.wide++ {
		changed = false
		now = roundInWords(t, s, elems)
		steps += now.Steps
		elems = nil
		for at, c := range s.Chans {
			e := queue.Widen(now.Elems[at], queue.Join(now.Elems[at], now.sent[at]))
			e.Len = itv.Meet(e.Len, between(0, c.Size))
			changed = changed || !same(e, now.Elems[at])
			elems = append(elems, e)
		}
	}
	for n.narrow < 4 && !same(now.sent, now.Elems) {
		next := roundInWords(t, s, now.sent)
		steps += next.Steps
		for at := range s.Chans {
			if !queue.Within(next.sent[at], now.sent[at]) {
				n.vain = 1
			}
		}
		if n.vain > 0 {
			break
		}
		now = next
		n.narrow++
	}
	now.Steps = steps
	return now.Result, n
}

func TestP16_1_InWords(t *testing.T) {
	random := rand.New(rand.NewSource(170))
	var wide, narrow [60]int
	vain := 0
	for range 2000 {
		s := anySystem(t, random)
		want, n := inWords(t, s)
		if r := analyzed(t, s); !same(r, want) {
			t.Fatal(s, r, "want", want)
		}
		wide[n.wide]++
		narrow[n.narrow]++
		vain += n.vain
	}
	if min(wide[1], wide[2], wide[3], narrow[0], narrow[1], narrow[2], narrow[3], narrow[4], vain) < 10 {
		t.Error("too few of one kind:", wide, narrow, vain)
	}
}
