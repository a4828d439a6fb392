package step_test

import (
	"math/rand"
	"testing"

	"jetsam/api"
	"jetsam/conf"
	"jetsam/flow"
	"jetsam/sample"
	"jetsam/step"
)

// From anywhere, with anything in the channels.
func TestP7_2_WhatComesIsRight(t *testing.T) {
	random := rand.New(rand.NewSource(73))
	told := map[step.Done]int{}
	for range 1500 {
		s, _ := lively(random)
		for range 20 {
			c := sample.Conf(s, random.Intn)
			p := randomPick(random, len(s.Graphs))
			behind, done, err := step.Step(s, c, p)
			if err != api.OK || !conf.Right(s, behind) {
				t.Fatal(s, c, p, "comes to", behind, done, err)
			}
			told[step.Done{Moved: done.Moved, Kind: done.Kind}]++
			checkDone(t, s, c, behind, p, done)
		}
	}
	if told[moved()] < 100 || told[step.Done{}] < 100 {
		t.Error(told)
	}
	for kind := api.FailedAssert; kind <= api.BrokenRule; kind++ {
		if told[step.Done{Kind: kind}] < 20 {
			t.Error("too few of kind", kind, told)
		}
	}
}

// checkDone: only what moved is another one, and only there where it was done.
func checkDone(t *testing.T, s flow.Sys, c, behind conf.Conf, p step.Pick, done step.Done) {
	t.Helper()
	if !done.Moved {
		if !same(behind, c) {
			t.Fatal(c, p, done, "changed to", behind)
		}
		if done.Kind == 0 && done != (step.Done{}) {
			t.Fatal(c, p, done, "of nothing")
		}
		if done.Kind != 0 && (done.Proc != p.Proc || s.Graphs[p.Proc].Edges[done.Edge].From != c.At[p.Proc]) {
			t.Fatal(c, p, done, "is elsewhere")
		}
		return
	}
	if done != moved() {
		t.Fatal(c, p, done, "tells more than that it moved")
	}
	for i := range c.At {
		if i != p.Proc && (behind.At[i] != c.At[i] || !same(behind.Vars[i], c.Vars[i])) {
			t.Fatal(c, p, "changed another process:", behind)
		}
	}
	for _, edge := range flow.Out(s.Graphs[p.Proc], c.At[p.Proc]) {
		if s.Graphs[p.Proc].Edges[edge].To == behind.At[p.Proc] {
			return
		}
	}
	t.Fatal(c, p, "went where no edge goes:", behind)
}

// Numbers and channels at their ends stay within them.
func TestP7_2_AtTheLimits(t *testing.T) {
	s := system(t, `chan c lossy 16 from p to q { a , b , k , l } ; rule c { 0 l 7 ; 7 l 0 ; }
proc p { var x ; var y ; input x ; input y ; y = y - 1 ; while ( 0 == 0 ) { send c . l ( x ) ; send c . l ( y + 1 ) ; } } proc q { }`)
	script := []step.Pick{{Input: most}, {Input: least + 1<<32}, {}}
	for range 60 {
		script = append(script, step.Pick{})
	}
	all, done, err := step.Run(s, script)
	if err != api.OK || done != fault(api.Overflow, 0, 2) || len(all) != 3 {
		t.Error(len(all), done, err)
	}
	script[1].Input = least + 1
	all, done, err = step.Run(s, script)
	if err != api.OK || done != (step.Done{}) || len(all) != 64 {
		t.Error(len(all), done, err)
	}
	for _, c := range all {
		if !conf.Right(s, c) {
			t.Error(c)
		}
	}
	last := all[63]
	if q := last.Queues[0]; len(q) != 16 || q[0].Val != most || q[1].Val != least+1 || q[15].Val != least+1 {
		t.Error(last)
	}
}

// What can't be picked is nobody, in each configuration.
func TestP1_WhateverIsPicked(t *testing.T) {
	s := system(t, twoText)
	start, _ := conf.Start(s)
	for _, p := range []step.Pick{{Proc: -1}, {Proc: 2}, {Proc: 4}, {Proc: 1 << 62}, {Proc: -1 << 63, Lose: true, Input: -1 << 63}} {
		c, done, err := step.Step(s, start, p)
		if err != api.OK || done != (step.Done{}) || !same(c, start) {
			t.Error(p, c, done, err)
		}
		all, done, err := step.Run(s, []step.Pick{p, p})
		if err != api.OK || done != (step.Done{}) || len(all) != 3 || !same(all[2], start) {
			t.Error(p, all, done, err)
		}
	}
}
