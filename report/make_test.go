package report_test

import (
	"math"
	"math/rand"
	"testing"

	"jetsam/api"
	"jetsam/fix"
	"jetsam/flow"
	"jetsam/itv"
	"jetsam/num"
	"jetsam/outer"
	"jetsam/queue"
	"jetsam/rule"
	"jetsam/sample"
	"jetsam/trans"
)

const least, most = -2147483648, 2147483647

var empty = itv.Itv{Lo: 1, Hi: 0}

func between(lo, hi int) itv.Itv { return itv.Itv{Lo: lo, Hi: hi} }

func only(n int) itv.Itv { return between(n, n) }

// node is one that is come to, with these variables.
func node(vars ...itv.Itv) trans.State {
	return trans.State{N: num.Num{I: vars}}
}

// never is a node that isn't come to, of so many variables.
func never(vars int) trans.State {
	return trans.State{N: num.None(vars)}
}

// elem: of so many messages, with these numbers by tags.
func elem(many itv.Itv, vals ...itv.Itv) queue.Elem {
	return queue.Elem{Len: many, Vals: vals}
}

func alarm(proc, edge, kind int) fix.Alarm {
	return fix.Alarm{Proc: proc, Edge: edge, Kind: kind}
}

func system(t *testing.T, text string) flow.Sys {
	t.Helper()
	s, err := sample.Text(text)
	if err != api.OK {
		t.Fatalf("%d: %q", err, text)
	}
	return s
}

func analyzed(t *testing.T, s flow.Sys) outer.Result {
	t.Helper()
	r, err := outer.Analyze(s, outer.Bound(s))
	if err != api.OK {
		t.Fatal(err, s)
	}
	return r
}

// wild are numbers of all kinds, also such as nothing that is analyzed has.
func wild() []int {
	return []int{math.MinInt, math.MinInt + 1, -1 << 40, least - 1, least, least + 1, -100, -17, -10, -9, -1, 0, 1, 2, 9, 10, 17, 100, most - 1, most, most + 1, 1 << 40, math.MaxInt - 1, math.MaxInt}
}

func wildNumber(random *rand.Rand) int {
	numbers := wild()
	return numbers[random.Intn(len(numbers))]
}

// wildItv is often one that reads in a way of its own, and may be any other one.
func wildItv(random *rand.Rand) itv.Itv {
	switch random.Intn(6) {
	case 0:
		return empty
	case 1:
		return itv.All()
	case 2:
		return only(wildNumber(random))
	}
	return between(wildNumber(random), wildNumber(random))
}

func wildItvs(most int, random *rand.Rand) []itv.Itv {
	var list []itv.Itv
	for range random.Intn(most + 1) {
		list = append(list, wildItv(random))
	}
	return list
}

func wildState(random *rand.Rand) trans.State {
	a := node(wildItvs(8, random)...)
	a.N.None = random.Intn(4) == 0
	a.Counts = wildItvs(5, random)
	for range random.Intn(5) {
		a.Rules = append(a.Rules, rule.Set(random.Intn(256)))
	}
	return a
}

// wildResult is one of any form, also such as no system has.
func wildResult(random *rand.Rand) outer.Result {
	r := outer.Result{Steps: wildNumber(random)}
	for range random.Intn(6) {
		var at []trans.State
		for range random.Intn(13) {
			at = append(at, wildState(random))
		}
		r.At = append(r.At, at)
	}
	for range random.Intn(12) {
		r.Elems = append(r.Elems, elem(wildItv(random), wildItvs(12, random)...))
	}
	for range random.Intn(4) * random.Intn(6) {
		r.Alarms = append(r.Alarms, alarm(wildNumber(random), wildNumber(random), random.Intn(9)-1))
	}
	return r
}

// anyResult is that of a system, or a wild one.
func anyResult(t *testing.T, random *rand.Rand) outer.Result {
	t.Helper()
	switch random.Intn(4) {
	case 0:
		s, _ := sample.Sys(random.Intn)
		return analyzed(t, s)
	case 1:
		s, _ := sample.CalmSys(random.Intn)
		return analyzed(t, s)
	}
	return wildResult(random)
}
