package fix_test

import (
	"math/rand"
	"slices"
	"testing"

	"jetsam/api"
	"jetsam/conf"
	"jetsam/fix"
	"jetsam/flow"
	"jetsam/itv"
	"jetsam/num"
	"jetsam/rule"
	"jetsam/sample"
	"jetsam/step"
	"jetsam/trans"
)

// walk is one process that runs where others do what they like: they put
// messages that the World tells of into channels, and take some out.
type walk struct {
	t    *testing.T
	w    trans.World
	proc int
	f    fix.Fixed
	c    conf.Conf
	sent []int
}

func begun(t *testing.T, w trans.World, proc int) *walk {
	t.Helper()
	c, err := conf.Start(w.S)
	if err != api.OK {
		t.Fatal(w.S)
	}
	return &walk{t: t, w: w, proc: proc, f: fixed(t, w, proc), c: c, sent: make([]int, len(w.S.Chans))}
}

// others do something.
func (k *walk) others(random *rand.Rand) {
	for at, c := range k.w.S.Chans {
		switch q := k.c.Queues[at]; {
		case c.To == k.proc:
			k.c.Queues[at] = sample.Messages(k.w.Elems[at], c.Size, random.Intn)
		case c.From == k.proc && !k.w.Deaf[at] && len(q) > 0 && random.Intn(3) == 0:
			k.c.Queues[at] = q[1:]
		}
	}
}

// by tells the edge that is gone by from the process's node.
func (k *walk) by() flow.Edge {
	g := k.w.S.Graphs[k.proc]
	out := flow.Out(g, k.c.At[k.proc])
	return g.Edges[out[0]]
}

// step does one, and tells whether the process goes on.
func (k *walk) step(random *rand.Rand) bool {
	if len(flow.Out(k.w.S.Graphs[k.proc], k.c.At[k.proc])) == 0 {
		return false
	}
	e, vars := k.by(), k.c.Vars[k.proc]
	next, done, err := step.Step(k.w.S, k.c, step.Pick{Proc: k.proc, Lose: random.Intn(4) == 0, Input: sample.Number(random.Intn)})
	if err != api.OK {
		k.t.Fatal(k.c, err)
	}
	if done.Kind != 0 && !slices.Contains(k.f.Alarms, fix.Alarm{Proc: done.Proc, Edge: done.Edge, Kind: done.Kind}) {
		k.t.Fatal("no alarm of", done, k.w, k.f, k.c)
	}
	if done.Moved && e.Kind == flow.Send {
		k.sent[e.Chan]++
		val, _ := step.Eval(e.E, vars)
		if !itv.Has(k.f.Sent[e.Chan].Vals[e.Tag], val) || !itv.Has(k.f.Sent[e.Chan].Len, min(k.sent[e.Chan], k.w.S.Chans[e.Chan].Size)) {
			k.t.Fatal("sent on", e.Chan, val, k.w, k.f, k.c)
		}
	}
	k.c = next
	return done.Kind == 0
}

// had: is what the process is now at its node?
func (k *walk) had() bool {
	a := k.f.At[k.c.At[k.proc]]
	if !num.Has(a.N, k.c.Vars[k.proc]) {
		return false
	}
	for at, c := range k.w.S.Chans {
		if c.From == k.proc && (!rule.Has(a.Rules[at], k.c.States[at]) || !itv.Has(a.Counts[at], min(k.sent[at], c.Size+1))) {
			return false
		}
	}
	return true
}

func TestP15_2_AllThatTheProcessMayBe(t *testing.T) {
	random := rand.New(rand.NewSource(163))
	kinds, back, steps := map[int]int{}, 0, 0
	for range 2500 {
		s := anySystem(random)
		w, proc := sample.World(s, random.Intn), random.Intn(len(s.Graphs))
		for range 4 {
			k := begun(t, w, proc)
			visits := map[int]int{}
			for range 60 {
				k.others(random)
				ahead := k.c.At[proc]
				if !k.step(random) {
					break
				}
				if !k.had() {
					t.Fatal(k.w, k.f, k.c, k.sent)
				}
				if k.c.At[proc] != ahead {
					steps++
					visits[k.c.At[proc]]++
					kinds[s.Graphs[proc].Edges[flow.Out(s.Graphs[proc], ahead)[0]].Kind]++
				}
			}
			for _, head := range s.Graphs[proc].Heads {
				back += max(0, visits[head]-1)
			}
		}
	}
	for kind := flow.Assign; kind <= flow.Input; kind++ {
		if kinds[kind] < 300 {
			t.Error("too few of kind", kind, kinds)
		}
	}
	if back < 3000 || steps < 30000 {
		t.Error("too few:", back, steps)
	}
}
