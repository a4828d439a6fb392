package outer_test

import (
	"slices"
	"testing"

	"jetsam/api"
	"jetsam/fix"
	"jetsam/flow"
	"jetsam/itv"
	"jetsam/outer"
	"jetsam/queue"
	"jetsam/trans"
)

const (
	handed  = "chan c block 1 from p to q { a } ; proc p { var x ; x = 1 + 2 ; send c . a ( x ) ; } proc q { var y ; recv c { a ( y ) { assert ( y == 3 ) ; } } }"
	counted = "chan c block 3 from p to q { a , b } ; proc p { var x ; while ( x < 10 ) { send c . a ( x ) ; x = x + 1 ; } } proc q { var y ; recv c { a ( y ) { } b ( y ) { } } }"
	halves  = "chan c block 1 from p to q { a } ; chan d block 1 from q to p { a } ; proc p { var x ; send c . a ( 0 ) ; while ( 0 == 0 ) { recv d { a ( x ) { send c . a ( x ) ; } } } } proc q { var y ; while ( 0 == 0 ) { recv c { a ( y ) { send d . a ( y / 2 + 10 ) ; } } } }"
	mostly  = "chan c block 1 from p to q { a } ; chan d block 1 from q to p { a } ; proc p { var x ; send c . a ( 0 ) ; while ( 0 == 0 ) { recv d { a ( x ) { send c . a ( x ) ; } } } } proc q { var y ; while ( 0 == 0 ) { recv c { a ( y ) { if ( y < 9 ) { send d . a ( y + 1 ) ; } } } } }"
)

func TestP16_1_NoAlarm(t *testing.T) {
	s := system(t, "proc p { var x ; x = 3 ; assert ( x == 3 ) ; }")
	r := analyzed(t, s)
	want := [][]itv.Itv{{only(0)}, {only(3)}, {only(3)}}
	if len(r.Alarms) > 0 || len(r.Elems) > 0 || len(r.At) != 1 || !same(vars(r.At[0]), want) || r.Steps != 6 {
		t.Error(r)
	}
}

func TestP16_1_Messages(t *testing.T) {
	for _, x := range []struct {
		text   string
		elems  []queue.Elem
		alarms []fix.Alarm
		steps  int
	}{
		// One round more than that in which something new is sent.
		{handed, []queue.Elem{elem(1, only(3))}, nil, 22},
		{counted, []queue.Elem{elem(3, between(0, 9), empty)}, nil, 44},
		// There was room for three, but two are sent, and that is told behind the round.
		{"chan c block 3 from p to q { a } ; proc p { send c . a ( 1 ) ; send c . a ( 4 ) ; } proc q { var y ; recv c { a ( y ) { assert ( y < 4 ) ; } } }",
			[]queue.Elem{elem(2, between(1, 4))}, []fix.Alarm{alarm(1, 1, api.FailedAssert)}, 10 + 12 + 12},
		// What goes round and round is widened, and then made less four times.
		{halves, []queue.Elem{elem(1, between(0, 536870926)), elem(1, between(10, 536870926))}, nil, 229},
		{mostly, []queue.Elem{elem(1, between(0, 9)), elem(1, between(1, 9))}, nil, 235},
		// With just what was sent more may be sent: so that doesn't count.
		{vain(0, 3, 5, 0), []queue.Elem{elem(2, between(0, most)), elem(2, between(5, most))}, []fix.Alarm{alarm(1, 3, api.FailedAssert)}, 327},
		// Alarms are told by processes.
		{"chan c drop 2 from p to q { a , b } ; chan d drop 1 from q to p { a } ; rule d { 0 a 0 ; } proc p { var x ; send c . a ( 1 ) ; send c . b ( 1 ) ; send c . a ( 2 ) ; } proc q { var x ; x = 1 / x ; }",
			[]queue.Elem{elem(2, only(1), only(1)), elem(0, empty)}, []fix.Alarm{alarm(0, 2, api.FullChannel), alarm(1, 0, api.DivZero)}, 16},
	} {
		r := analyzed(t, system(t, x.text))
		if !same(r.Elems, x.elems) || !same(r.Alarms, x.alarms) || r.Steps != x.steps {
			t.Error(x.text, r.Elems, r.Alarms, r.Steps, "want", x.elems, x.alarms, x.steps)
		}
	}
}

// What is told of the nodes is that of the round that counts.
func TestP16_1_Nodes(t *testing.T) {
	for _, x := range []struct {
		text string
		want [][][]itv.Itv
	}{
		{handed, [][][]itv.Itv{{{only(0)}, {only(3)}, {only(3)}}, {{only(0)}, {only(3)}, {only(3)}}}},
		{counted, [][][]itv.Itv{
			{{between(0, most)}, {between(10, most)}, {between(0, 9)}, {between(0, 9)}},
			{{only(0)}, {between(0, 9)}, {between(0, 9)}, nil},
		}},
		{mostly, [][][]itv.Itv{
			{{only(0)}, nil, {between(0, most)}, {between(0, most)}, {between(1, 9)}},
			{{between(0, most)}, nil, {between(0, most)}, {between(0, 9)}, {between(0, 8)}, {only(9)}},
		}},
		{vain(0, 3, 5, 0), [][][]itv.Itv{
			{{between(0, most)}, nil, {between(0, most)}, {between(0, most)}, {between(0, 5)}, {between(6, most)}, {between(0, 5)}, {only(5)}, {between(0, 4)}},
			{{only(0)}, {between(5, 8)}, {only(0)}, {between(5, most)}, {between(5, most)}},
		}},
	} {
		r := analyzed(t, system(t, x.text))
		var got [][][]itv.Itv
		for _, at := range r.At {
			got = append(got, vars(at))
		}
		if !same(got, x.want) {
			t.Error(x.text, got, "want", x.want)
		}
	}
}

// A process that waits for what never comes goes no further.
func TestP16_1_WhatNeverComes(t *testing.T) {
	r := analyzed(t, system(t, "chan c block 1 from p to q { a } ; chan d block 1 from q to p { a } ; proc p { var x ; recv d { a ( x ) { send c . a ( x ) ; } } } proc q { var x ; recv c { a ( x ) { send d . a ( x ) ; assert ( 1 == 2 ) ; } } }"))
	if !same(vars(r.At[0]), [][]itv.Itv{{only(0)}, nil, nil}) || !same(r.Elems, []queue.Elem{elem(0, empty), elem(0, empty)}) || len(r.Alarms) > 0 {
		t.Error(r)
	}
}

// A channel that nobody takes from fills up; of one that loses nothing is known.
func TestP16_1_Deaf(t *testing.T) {
	for kind, want := range map[string][]fix.Alarm{"block": nil, "drop": {alarm(0, 1, api.FullChannel)}, "lossy": {alarm(0, 2, api.FailedAssert)}} {
		r := analyzed(t, system(t, "chan c "+kind+" 1 from p to q { a } ; proc p { send c . a ( 1 ) ; send c . a ( 2 ) ; assert ( 1 == 2 ) ; } proc q { }"))
		if !same(r.Alarms, want) {
			t.Error(kind, r.Alarms, "want", want)
		}
	}
}

func TestP16_1_ErrArg(t *testing.T) {
	for at, spoil := range []func(s *flow.Sys){
		func(s *flow.Sys) { *s = flow.Sys{} },
		func(s *flow.Sys) { s.Vars = s.Vars[:1] },
		func(s *flow.Sys) { s.Graphs = s.Graphs[:1] },
		func(s *flow.Sys) { s.Graphs[0].Nodes = 1 },
		func(s *flow.Sys) { s.Graphs[0].Heads = nil },
		func(s *flow.Sys) { s.Graphs[0].Edges[0].Kind = flow.Skip },
		func(s *flow.Sys) { s.Graphs[0].Edges[2].Tag = 2 },
		func(s *flow.Sys) { s.Graphs[1].Edges[0].To = 99 },
		func(s *flow.Sys) { s.Chans[0].Size = 17 },
		func(s *flow.Sys) { s.Chans[0].To = 0 },
		func(s *flow.Sys) { s.Chans = nil },
	} {
		s := system(t, counted)
		spoil(&s)
		for _, budget := range []int{-1, 0, outer.Bound(system(t, counted)), most} {
			if r, err := outer.Analyze(s, budget); err != api.ErrArg || !same(r, outer.Result{}) {
				t.Error(at, budget, r, err)
			}
		}
	}
}

func TestP16_1_ErrBudget(t *testing.T) {
	for _, text := range []string{"proc p { }", handed, counted, mostly, vain(0, 3, 5, 0)} {
		s := system(t, text)
		want := analyzed(t, s)
		for _, budget := range []int{want.Steps, want.Steps + 1, most, 1<<63 - 1} {
			if r, err := outer.Analyze(s, budget); err != api.OK || !same(r, want) {
				t.Error(text, budget, r, err)
			}
		}
		for budget := range want.Steps {
			if r, err := outer.Analyze(s, budget); err != api.ErrBudget || !same(r, outer.Result{Steps: budget}) {
				t.Error(text, budget, r, err)
			}
		}
		for _, budget := range []int{-1, least, -1 << 63} {
			if r, err := outer.Analyze(s, budget); err != api.ErrBudget || !same(r, outer.Result{}) {
				t.Error(text, budget, r, err)
			}
		}
	}
}

func TestP16_1_Bound(t *testing.T) {
	for text, want := range map[string]int{
		"proc p { }":            70 * 2 * 4 * 2,
		"proc p { } proc q { }": 70 * (2*4*2 + 2*4*2),
		handed:                  70 * (2*5*3 + 2*5*3),
		counted:                 70 * (62*6*5 + 2*6*5),
	} {
		if got := outer.Bound(system(t, text)); got != want {
			t.Error(text, got, "want", want)
		}
	}
	if got := outer.Bound(flow.Sys{}); got != 0 {
		t.Error(got)
	}
}

// More and more tags are sent on more and more channels, each with ever more
// numbers: no loop of words, but one from process to process.
func TestP16_3_BoundIsEnough(t *testing.T) {
	const tags = "{ a , b , e , f } ; "
	takes := func(from, to, b, e, f, a string) string {
		send := func(tag, what string) string { return " ( x ) { send " + to + " . " + tag + " ( " + what + " ) ; } " }
		return "while ( 0 == 0 ) { recv " + from + " { a" + send(b, "x + 1") + "b" + send(e, "x - 1") + "e" + send(f, "x + x") + "f" + send(a, "0 - x") + "} } "
	}
	s := system(t, "chan c lossy 16 from p to q "+tags+"chan d drop 16 from q to r "+tags+"chan g block 16 from r to s "+tags+"chan h lossy 16 from s to p "+tags+
		"proc p { var x ; send c . a ( 0 ) ; "+takes("h", "c", "b", "e", "f", "a")+"} proc q { var x ; "+takes("c", "d", "a", "b", "e", "f")+"} "+
		"proc r { var x ; "+takes("d", "g", "a", "b", "e", "f")+"} proc s { var x ; "+takes("g", "h", "a", "b", "e", "f")+"} ")
	r := analyzed(t, s)
	for _, e := range r.Elems {
		if len(queue.Tags(e)) != 4 || e.Len != between(0, 16) {
			t.Error(r.Elems)
		}
	}
	if _, n := inWords(t, s); n.wide < 15 {
		t.Error("few rounds:", n)
	}
}

// Of each process and each channel what is told fits the others: nothing leads
// out of it.
func TestP16_1_NothingLeadsOut(t *testing.T) {
	for _, text := range []string{handed, counted, halves, mostly, vain(0, 3, 5, 0), vain(2, 4, 6, 1)} {
		s := system(t, text)
		r := analyzed(t, s)
		w := trans.World{S: s, Elems: r.Elems, Deaf: trans.Deaf(s)}
		var alarms []fix.Alarm
		for proc := range s.Graphs {
			f, _ := fix.Fix(w, proc, fix.Bound(w, proc))
			if !fix.Stable(w, proc, r.At[proc]) || !same(f.At, r.At[proc]) {
				t.Error(text, proc)
			}
			for at, c := range s.Chans {
				if c.From == proc && !queue.Within(f.Sent[at], r.Elems[at]) {
					t.Error(text, at, f.Sent[at], r.Elems[at])
				}
			}
			alarms = slices.Concat(alarms, f.Alarms)
		}
		if !same(alarms, r.Alarms) {
			t.Error(text, alarms, r.Alarms)
		}
	}
}
