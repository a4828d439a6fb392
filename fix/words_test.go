package fix_test

import (
	"math/rand"
	"slices"
	"testing"

	"jetsam/check"
	"jetsam/fix"
	"jetsam/flow"
	"jetsam/itv"
	"jetsam/queue"
	"jetsam/sample"
	"jetsam/trans"
)

// anySystem makes one whose runs are short or long, or whose ways no statements
// have, at times with less room.
func anySystem(random *rand.Rand) flow.Sys {
	s, _ := sample.Sys(random.Intn)
	switch random.Intn(3) {
	case 0:
		s, _ = sample.CalmSys(random.Intn)
	case 1:
		s = tangled(random)
	}
	if random.Intn(2) == 0 {
		for at := range s.Chans {
			s.Chans[at].Size = 1 + random.Intn(3)
		}
	}
	return s
}

// together tells what comes to a node, as the chapter says it.
func together(w trans.World, proc, node int, at []trans.State) trans.State {
	all := trans.None(w.S, proc)
	if node == 0 {
		all = trans.Start(w.S, proc)
	}
	for edge, e := range w.S.Graphs[proc].Edges {
		if e.To == node {
			behind, _, _ := trans.Step(w, proc, edge, at[e.From])
			all = trans.Join(all, behind)
		}
	}
	return all
}

func equal(a, b trans.State) bool { return trans.Within(a, b) && trans.Within(b, a) }

// inWords does the chapter's rounds, word by word.
func inWords(w trans.World, proc int) fix.Fixed {
	g := w.S.Graphs[proc]
	var f fix.Fixed
	for range g.Nodes {
		f.At = append(f.At, trans.None(w.S, proc))
	}
	for changed := true; changed; f.Steps += len(g.Edges) {
		changed = false
		for node := range g.Nodes {
			next := together(w, proc, node, f.At)
			if slices.Contains(g.Heads, node) {
				next = trans.Widen(f.At[node], trans.Join(f.At[node], next))
			}
			if !equal(next, f.At[node]) {
				changed = true
			}
			f.At[node] = next
		}
	}
	for edge, e := range g.Edges {
		_, _, kinds := trans.Step(w, proc, edge, f.At[e.From])
		for _, kind := range kinds {
			f.Alarms = append(f.Alarms, fix.Alarm{Proc: proc, Edge: edge, Kind: kind})
		}
	}
	for at, c := range w.S.Chans {
		f.Sent = append(f.Sent, sentInWords(w, proc, at, c, f.At))
	}
	return f
}

func sentInWords(w trans.World, proc, channel int, c check.Chan, at []trans.State) queue.Elem {
	all, sends := queue.None(c), false
	for edge, e := range w.S.Graphs[proc].Edges {
		_, sent, _ := trans.Step(w, proc, edge, at[e.From])
		if sent.Chan == channel {
			sends = true
			all.Vals[sent.Tag] = itv.Join(all.Vals[sent.Tag], sent.Vals)
		}
	}
	if !sends {
		return queue.None(c)
	}
	for _, a := range at {
		if !trans.Empty(a) {
			all.Len.Hi = max(all.Len.Hi, min(a.Counts[channel].Hi, c.Size))
		}
	}
	return all
}

func TestP15_1_InWords(t *testing.T) {
	random := rand.New(rand.NewSource(160))
	widened, sends, alarms := 0, 0, 0
	for range 5000 {
		s := anySystem(random)
		w, proc := sample.World(s, random.Intn), random.Intn(len(s.Graphs))
		f, want := fixed(t, w, proc), inWords(w, proc)
		if !same(f, want) {
			t.Fatal(w, proc, f, "want", want)
		}
		for _, head := range s.Graphs[proc].Heads {
			if !equal(f.At[head], together(w, proc, head, f.At)) {
				widened++
			}
		}
		for _, e := range f.Sent {
			sends += len(queue.Tags(e))
		}
		alarms += len(f.Alarms)
	}
	if widened < 300 || sends < 300 || alarms < 1500 {
		t.Error("too few of one kind:", widened, sends, alarms)
	}
}

// At each node is what comes to it, and only at a head there may be more; so
// without a loop there is nowhere more.
func TestP15_2_NoMoreThanComes(t *testing.T) {
	random := rand.New(rand.NewSource(161))
	loops, straight := 0, 0
	for range 3000 {
		s := anySystem(random)
		w, proc := sample.World(s, random.Intn), random.Intn(len(s.Graphs))
		f := fixed(t, w, proc)
		if !fix.Stable(w, proc, f.At) {
			t.Fatal("not stable", w, proc, f)
		}
		for node, a := range f.At {
			come := together(w, proc, node, f.At)
			isHead := slices.Contains(s.Graphs[proc].Heads, node)
			if !trans.Within(come, a) || !isHead && !equal(come, a) {
				t.Fatal(w, proc, node, a, "but", come)
			}
		}
		if len(s.Graphs[proc].Heads) > 0 {
			loops++
		} else {
			straight++
		}
	}
	if loops < 500 || straight < 500 {
		t.Error("too few of one kind:", loops, straight)
	}
}

// One state less at a node, and it isn't Stable any more; one more at another
// process's isn't asked.
func TestP15_1_StableInWords(t *testing.T) {
	random := rand.New(rand.NewSource(162))
	seen := map[bool]int{}
	for range 4000 {
		s := anySystem(random)
		w, proc := sample.World(s, random.Intn), random.Intn(len(s.Graphs))
		at := fixed(t, w, proc).At
		node := random.Intn(len(at))
		switch random.Intn(4) {
		case 0:
			at[node] = trans.None(s, proc)
		case 1:
			at[node] = sample.State(s, proc, random.Intn)
		case 2:
			at[node] = trans.Join(at[node], sample.State(s, proc, random.Intn))
		case 3:
			at[node] = at[random.Intn(len(at))]
		}
		want := true
		for node, a := range at {
			want = want && trans.Within(together(w, proc, node, at), a)
		}
		if got := fix.Stable(w, proc, at); got != want {
			t.Fatal(w, proc, at, got)
		}
		seen[want]++
	}
	if seen[true] < 500 || seen[false] < 500 {
		t.Error("too few of one kind:", seen)
	}
}
