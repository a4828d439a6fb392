package report_test

import (
	"fmt"
	"math/rand"
	"slices"
	"testing"

	"jetsam/fix"
	"jetsam/itv"
	"jetsam/outer"
	"jetsam/queue"
	"jetsam/report"
	"jetsam/rule"
	"jetsam/trans"
)

// roomy tells the same list, with something in its spare room.
func roomy[T any](list []T, more T) []T {
	return append(slices.Clone(list), more)[:len(list)]
}

// withRoom tells the same result, with something in the spare room of each list.
func withRoom(r outer.Result) outer.Result {
	r.At = roomy(r.At, []trans.State{node(only(77))})
	for proc, at := range r.At {
		r.At[proc] = roomy(at, node(only(77)))
		for i, a := range r.At[proc] {
			a.N.I, a.Counts, a.Rules = roomy(a.N.I, only(77)), roomy(a.Counts, only(77)), roomy(a.Rules, rule.Set(77))
			r.At[proc][i] = a
		}
	}
	r.Elems = roomy(r.Elems, elem(only(77)))
	for at, e := range r.Elems {
		r.Elems[at].Vals = roomy(e.Vals, only(77))
	}
	r.Alarms = roomy(r.Alarms, alarm(77, 77, 77))
	return r
}

// whole tells all of a result as text, the spare room, too.
func whole(r outer.Result) string {
	all := fmt.Sprint(r.Steps, r.At[:cap(r.At)], r.Elems[:cap(r.Elems)], r.Alarms[:cap(r.Alarms)])
	for _, at := range r.At {
		all += fmt.Sprint(at[:cap(at)])
		for _, a := range at {
			all += fmt.Sprint(a.N.I[:cap(a.N.I)], a.Counts[:cap(a.Counts)], a.Rules[:cap(a.Rules)])
		}
	}
	for _, e := range r.Elems {
		all += fmt.Sprint(e.Vals[:cap(e.Vals)])
	}
	return all
}

// What is behind the lists isn't told, and nothing of it is changed.
func TestP17_1_NothingIsChanged(t *testing.T) {
	random := rand.New(rand.NewSource(182))
	for range 1000 {
		r := anyResult(t, random)
		text, room := report.Text(r), withRoom(r)
		ahead := whole(room)
		for range 2 {
			if got := report.Text(room); got != text {
				t.Fatal("another text:", got, "not", text)
			}
		}
		if whole(room) != ahead {
			t.Fatal("changed:", room, "from", ahead)
		}
	}
}

// A text hangs on the result alone, and stays when that is written over.
func TestP17_1_TextsAreKept(t *testing.T) {
	random := rand.New(rand.NewSource(183))
	a, b := wildResult(random), wildResult(random)
	kept := report.Text(a)
	old := string([]byte(kept))
	report.Text(b)
	for _, at := range a.At {
		for i := range at {
			at[i] = never(1)
		}
	}
	for at := range a.Elems {
		a.Elems[at] = elem(itv.All(), only(77))
	}
	a.Alarms = append(a.Alarms[:0], fix.Alarm{})
	report.Text(a)
	if kept != old {
		t.Error("changed:", kept, "from", old)
	}
}

// Nil and empty lists are one.
func TestP17_1_NilAndEmpty(t *testing.T) {
	for _, x := range [][2]outer.Result{
		{{}, {At: [][]trans.State{}, Elems: []queue.Elem{}, Alarms: []fix.Alarm{}}},
		{{At: [][]trans.State{nil}}, {At: [][]trans.State{{}}}},
		{{At: [][]trans.State{{node()}}}, {At: [][]trans.State{{node([]itv.Itv{}...)}}}},
		{{Elems: []queue.Elem{elem(only(0))}}, {Elems: []queue.Elem{elem(only(0), []itv.Itv{}...)}}},
	} {
		if a, b := report.Text(x[0]), report.Text(x[1]); a != b {
			t.Error(a, b)
		}
	}
}
