package fix

import (
	"jetsam/flow"
	"jetsam/itv"
	"jetsam/queue"
	"jetsam/trans"
)

// fixer goes through a process, round by round. Coming tells the edges that come
// to each node, and count how many they are; at is what was found up to now.
type fixer struct {
	w      trans.World
	proc   int
	graph  flow.Graph
	coming [][]int
	count  int
	isHead []bool
	at     []trans.State
	steps  int
}

// begin: nothing comes to any node as yet.
func begin(w trans.World, proc int) *fixer {
	g := w.S.Graphs[proc]
	f := &fixer{w: w, proc: proc, graph: g, coming: make([][]int, g.Nodes), isHead: make([]bool, g.Nodes)}
	for range g.Nodes {
		f.at = append(f.at, trans.None(w.S, proc))
	}
	for edge, e := range g.Edges {
		if joins(g, e) {
			f.coming[e.To] = append(f.coming[e.To], edge)
			f.count++
		}
	}
	for _, head := range g.Heads {
		if isPlace(head, g.Nodes) {
			f.isHead[head] = true
		}
	}
	return f
}

// round goes through all nodes once, and tells whether that changed something.
// What was found of a node counts at once for those behind it.
func (f *fixer) round() bool {
	changed := false
	for node, old := range f.at {
		found := f.comes(node)
		if f.isHead[node] {
			found = trans.Widen(old, trans.Join(old, found))
		}
		changed = changed || !trans.Within(old, found) || !trans.Within(found, old)
		f.at[node] = found
	}
	return changed
}

// comes tells what comes to a node.
func (f *fixer) comes(node int) trans.State {
	all := trans.None(f.w.S, f.proc)
	if node == 0 {
		all = trans.Start(f.w.S, f.proc)
	}
	for _, edge := range f.coming[node] {
		behind, _, _ := f.step(edge)
		all = trans.Join(all, behind)
		f.steps++
	}
	return all
}

func (f *fixer) step(edge int) (trans.State, trans.Sent, []int) {
	return trans.Step(f.w, f.proc, edge, f.at[f.graph.Edges[edge].From])
}

// told goes by each edge once more, for what may be sent, and go wrong, there.
func (f *fixer) told() Fixed {
	all := Fixed{At: f.at, Steps: f.steps}
	for _, c := range f.w.S.Chans {
		all.Sent = append(all.Sent, queue.None(c))
	}
	for edge, e := range f.graph.Edges {
		if !joins(f.graph, e) {
			continue
		}
		_, sent, kinds := f.step(edge)
		if sent.Chan >= 0 {
			all.Sent[sent.Chan] = f.with(all.Sent[sent.Chan], sent)
		}
		for _, kind := range kinds {
			all.Alarms = append(all.Alarms, Alarm{Proc: f.proc, Edge: edge, Kind: kind})
		}
	}
	return all
}

// with tells the same, and a message that may be sent. As nobody may have taken
// one, there may be as many of them as were sent.
func (f *fixer) with(e queue.Elem, sent trans.Sent) queue.Elem {
	c := f.w.S.Chans[sent.Chan]
	e = queue.Send(c, e, sent.Tag, sent.Vals)
	e.Len = itv.Of(0, min(f.mostSent(sent.Chan), c.Size))
	return e
}

// mostSent tells how often the process may have sent on a channel at most.
func (f *fixer) mostSent(channel int) int {
	most := 0
	for _, a := range f.at {
		most = max(most, a.Counts[channel].Hi)
	}
	return most
}
