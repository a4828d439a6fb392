package outer_test

import (
	"math/rand"
	"slices"
	"testing"

	"jetsam/conf"
	"jetsam/fix"
	"jetsam/flow"
	"jetsam/itv"
	"jetsam/num"
	"jetsam/outer"
	"jetsam/queue"
	"jetsam/rule"
	"jetsam/step"
	"jetsam/trans"
)

// sends: p sends on c, whose rule goes on, and q takes of it; on d nobody sends.
const sends = "chan c lossy 3 from p to q { a , b } ; chan d block 2 from q to p { a } ; rule c { 0 a 1 ; 1 a 2 ; 2 b 2 ; } " +
	"proc p { var x ; var y ; send c . a ( 1 ) ; input x ; y = x ; send c . a ( 5 ) ; assert ( x == x ) ; assert ( 1 == 2 ) ; } proc q { var z ; recv c { a ( z ) { } b ( z ) { } } }"

// afterTwo is what that system is like when p has sent twice: 0, 2, 3, 4, 5 are
// p's nodes then.
func afterTwo(t *testing.T, s flow.Sys) conf.Conf {
	t.Helper()
	list, _, _ := step.Run(s, []step.Pick{{}, {Input: 7}, {}, {}})
	c := list[len(list)-1]
	if !slices.Equal(c.At, []int{5, 0}) || !same(c.Queues, [][]conf.Msg{{{Tag: 0, Val: 1}, {Tag: 0, Val: 5}}, nil}) || c.States[0] != 2 {
		t.Fatal(c)
	}
	return c
}

func TestP16_1_In(t *testing.T) {
	s := system(t, sends)
	r := analyzed(t, s)
	for at, x := range []struct {
		change func(c *conf.Conf)
		want   bool
	}{
		{func(c *conf.Conf) {}, true},
		{func(c *conf.Conf) { c.Vars[0] = []int{-9, -9} }, true},
		{func(c *conf.Conf) { c.Queues[0] = nil }, true},
		{func(c *conf.Conf) { c.Queues[0] = c.Queues[0][1:] }, true},
		// These two might be there, as far as is told: of each tag only the numbers are known.
		{func(c *conf.Conf) { c.Queues[0] = []conf.Msg{{Tag: 0, Val: 3}, {Tag: 0, Val: 2}} }, true},
		// It is never behind what always fails.
		{func(c *conf.Conf) { c.At[0] = 1 }, false},
		// Its variables are the same, and in the beginning nought.
		{func(c *conf.Conf) { c.Vars[0] = []int{7, 8} }, false},
		{func(c *conf.Conf) { c.Vars[1] = []int{1} }, false},
		{func(c *conf.Conf) { c.At[1], c.Vars[1] = 3, []int{0} }, false},
		{func(c *conf.Conf) { c.At[1], c.Vars[1] = 2, []int{5} }, true},
		{func(c *conf.Conf) { c.At[1], c.Vars[1] = 2, []int{6} }, false},
		{func(c *conf.Conf) { c.At[1], c.Vars[1] = 1, []int{4} }, true},
		// Nobody sends such messages.
		{func(c *conf.Conf) { c.Queues[0][0].Val = 0 }, false},
		{func(c *conf.Conf) { c.Queues[0][1].Val = 6 }, false},
		{func(c *conf.Conf) { c.Queues[0][1].Tag = 1 }, false},
		{func(c *conf.Conf) { c.Queues[1] = []conf.Msg{{Tag: 0, Val: 0}} }, false},
		// Not so many of them: three were never sent, and two not as yet ahead of the second send.
		{func(c *conf.Conf) { c.Queues[0] = append(c.Queues[0], conf.Msg{Val: 1}) }, false},
		{func(c *conf.Conf) { c.At[0], c.States[0] = 4, 1 }, false},
		{func(c *conf.Conf) { c.At[0], c.States[0], c.Queues[0] = 4, 1, c.Queues[0][1:] }, true},
		{func(c *conf.Conf) { c.At[0], c.States[0], c.Vars[0], c.Queues[0] = 0, 0, []int{0, 0}, nil }, true},
		{func(c *conf.Conf) { c.At[0], c.States[0], c.Vars[0], c.Queues[0] = 0, 0, []int{0, 0}, c.Queues[0][1:] }, false},
		// The rule goes on as p does.
		{func(c *conf.Conf) { c.States[0] = 0 }, false},
		{func(c *conf.Conf) { c.States[0] = 1 }, false},
		{func(c *conf.Conf) { c.At[0], c.States[0], c.Queues[0] = 4, 2, nil }, false},
		// No configuration at all.
		{func(c *conf.Conf) { c.At[0] = -1 }, false},
		{func(c *conf.Conf) { c.At[0] = 99 }, false},
		{func(c *conf.Conf) { c.At = c.At[:1] }, false},
		{func(c *conf.Conf) { c.Vars = c.Vars[:1] }, false},
		{func(c *conf.Conf) { c.Vars[0] = c.Vars[0][:1] }, false},
		{func(c *conf.Conf) { c.Queues = c.Queues[:1] }, false},
		{func(c *conf.Conf) { c.Queues[0][0].Tag = 2 }, false},
		{func(c *conf.Conf) { c.States = c.States[:1] }, false},
		{func(c *conf.Conf) { c.States[1] = 1 }, false},
		{func(c *conf.Conf) { *c = conf.Conf{} }, false},
	} {
		c := afterTwo(t, s)
		x.change(&c)
		if got := outer.In(s, r, c); got != x.want {
			t.Error(at, c, got)
		}
	}
}

// A result that hasn't as many of each as the system is none of it.
func TestP16_1_InAnother(t *testing.T) {
	s := system(t, sends)
	c := afterTwo(t, s)
	never := trans.None(s, 0)
	for at, x := range []struct {
		change func(r *outer.Result)
		want   bool
	}{
		{func(r *outer.Result) {}, true},
		{func(r *outer.Result) { r.Steps, r.Alarms = -5, nil }, true},
		{func(r *outer.Result) { r.At[0][0], r.At[1][1] = never, never }, true},
		{func(r *outer.Result) { r.At[0][5] = never }, false},
		{func(r *outer.Result) { r.At[1][0] = never }, false},
		{func(r *outer.Result) { r.At[0][5].N.None = true }, false},
		{func(r *outer.Result) { r.At[0][5].N = num.Zeros(2) }, false},
		{func(r *outer.Result) { r.At[0][5].N = num.Top(2) }, true},
		{func(r *outer.Result) { r.At[0][5].N = num.Top(3) }, false},
		{func(r *outer.Result) { r.At[0][5].N = num.Top(1) }, false},
		{func(r *outer.Result) { r.At[0][5].Counts[0] = between(0, 2) }, true},
		{func(r *outer.Result) { r.At[0][5].Counts[0] = between(3, 4) }, true},
		{func(r *outer.Result) { r.At[0][5].Counts[0] = between(0, 1) }, false},
		{func(r *outer.Result) { r.At[0][5].Rules[0] = 7 }, true},
		{func(r *outer.Result) { r.At[0][5].Rules[0] = 3 }, false},
		{func(r *outer.Result) { r.At[0][5].Rules[1] = 0 }, true},
		{func(r *outer.Result) { r.At[1][0].Rules[1] = 2 }, false},
		{func(r *outer.Result) { r.At[1][0].Rules[0] = 0 }, true},
		{func(r *outer.Result) { r.Elems[0].Len = only(2) }, true},
		{func(r *outer.Result) { r.Elems[0].Len = only(1) }, false},
		{func(r *outer.Result) { r.Elems[0].Len = only(3) }, false},
		{func(r *outer.Result) { r.Elems[0].Vals[0] = between(1, 4) }, false},
		{func(r *outer.Result) { r.Elems[0].Vals[1] = itv.All() }, true},
		{func(r *outer.Result) { r.Elems[1].Len = empty }, false},
		{func(r *outer.Result) { *r = outer.Result{} }, false},
		{func(r *outer.Result) { r.At = r.At[:1] }, false},
		{func(r *outer.Result) { r.At = append(r.At, nil) }, false},
		{func(r *outer.Result) { r.At[0] = without(r.At[0], 1) }, false},
		{func(r *outer.Result) { r.At[0] = r.At[0][:6] }, false},
		{func(r *outer.Result) { r.At[1] = append(r.At[1], never) }, false},
		{func(r *outer.Result) { r.Elems = r.Elems[:1] }, false},
		{func(r *outer.Result) { r.Elems = append(r.Elems, queue.Elem{}) }, false},
		{func(r *outer.Result) { r.Elems[0].Vals = r.Elems[0].Vals[:1] }, false},
		{func(r *outer.Result) { r.Elems[1].Vals = append(r.Elems[1].Vals, empty) }, false},
		{func(r *outer.Result) { r.At[0][5].Counts = r.At[0][5].Counts[:1] }, false},
		{func(r *outer.Result) { r.At[0][5].Rules = nil }, false},
		{func(r *outer.Result) { r.At[1][0].Counts = nil }, false},
		{func(r *outer.Result) { r.At[1][0].Rules = append(r.At[1][0].Rules, 1) }, false},
	} {
		r := analyzed(t, s)
		x.change(&r)
		if got := outer.In(s, r, c); got != x.want {
			t.Error(at, r, got)
		}
	}
	other := s
	other.Chans = slices.Clone(s.Chans)
	other.Chans[0].Size = 17
	if outer.In(other, analyzed(t, s), c) {
		t.Error("of a system that can't be")
	}
}

// isInWords asks all that the chapter asks of a configuration.
func isInWords(s flow.Sys, r outer.Result, c conf.Conf) bool {
	if !conf.Right(s, c) {
		return false
	}
	in := true
	for proc := range s.Graphs {
		a := r.At[proc][c.At[proc]]
		in = in && !trans.Empty(a) && num.Has(a.N, c.Vars[proc])
	}
	for at, ch := range s.Chans {
		a := r.At[ch.From][c.At[ch.From]]
		in = in && queue.Has(r.Elems[at], c.Queues[at]) && rule.Has(a.Rules[at], c.States[at]) && len(c.Queues[at]) <= a.Counts[at].Hi
	}
	return in
}

// mixed makes a configuration of parts of two, often with something else in it.
func mixed(a, b conf.Conf, random *rand.Rand) conf.Conf {
	c := conf.Copy(a)
	for proc := range c.At {
		if random.Intn(2) == 0 {
			c.At[proc], c.Vars[proc] = b.At[proc], slices.Clone(b.Vars[proc])
		}
	}
	for at := range c.Queues {
		if random.Intn(2) == 0 {
			c.Queues[at] = slices.Clone(b.Queues[at])
		}
		if random.Intn(2) == 0 {
			c.States[at] = b.States[at]
		}
	}
	proc := random.Intn(len(c.At))
	switch random.Intn(4) {
	case 0:
		c.At[proc] = random.Intn(4)
	case 1:
		for x := range c.Vars[proc] {
			c.Vars[proc][x] += random.Intn(3)
		}
	case 2:
		for at := range c.Queues {
			c.Queues[at] = append(c.Queues[at], conf.Msg{Tag: random.Intn(2), Val: random.Intn(9)})
		}
	}
	return c
}

func TestP16_1_InWordsOfIn(t *testing.T) {
	random := rand.New(rand.NewSource(171))
	seen := map[bool]int{}
	for range 1500 {
		s := anySystem(t, random)
		r := analyzed(t, s)
		one, _, _ := step.Run(s, script(s, 60, random))
		other, _, _ := step.Run(s, script(s, 60, random))
		for range 10 {
			c := mixed(one[random.Intn(len(one))], other[random.Intn(len(other))], random)
			want := isInWords(s, r, c)
			if outer.In(s, r, c) != want {
				t.Fatal(s, r, c, want)
			}
			seen[want]++
		}
	}
	if seen[true] < 1000 || seen[false] < 1000 {
		t.Error("too few of one kind:", seen)
	}
}

// ran counts what was seen of runs.
type ran struct {
	confs, messages, loops, quiet int
	kinds                         map[int]int
}

// wantIn holds a run against what is told of it.
func wantIn(t *testing.T, s flow.Sys, r outer.Result, list []step.Pick, seen *ran) {
	t.Helper()
	all, done, _ := step.Run(s, list)
	visits := map[[2]int]int{}
	for at, c := range all {
		if at > 0 && same(c, all[at-1]) {
			continue
		}
		seen.confs++
		if !outer.In(s, r, c) {
			t.Fatal("not in:", c, s, r, list)
		}
		for proc, node := range c.At {
			if at > 0 && node != all[at-1].At[proc] && slices.Contains(s.Graphs[proc].Heads, node) {
				visits[[2]int{proc, node}]++
			}
		}
		for _, q := range c.Queues {
			seen.messages += len(q)
		}
	}
	for _, many := range visits {
		seen.loops += many - 1
	}
	seen.kinds[done.Kind]++
	if done.Kind != 0 && !slices.Contains(r.Alarms, fix.Alarm{Proc: done.Proc, Edge: done.Edge, Kind: done.Kind}) {
		t.Fatal("no alarm:", done, s, r, list)
	}
	if len(r.Alarms) == 0 && len(all) == len(list)+1 {
		seen.quiet++
	}
}

func TestP16_2_RunsAreIn(t *testing.T) {
	random := rand.New(rand.NewSource(172))
	seen := ran{kinds: map[int]int{}}
	for range 2500 {
		s := anySystem(t, random)
		r := analyzed(t, s)
		for range 3 {
			wantIn(t, s, r, script(s, []int{20, 60, 150}[random.Intn(3)], random), &seen)
		}
	}
	for kind := 0; kind <= 6; kind++ {
		if seen.kinds[kind] < 30 {
			t.Error("too few errors of kind", kind, seen)
		}
	}
	if seen.confs < 40000 || seen.messages < 10000 || seen.loops < 5000 || seen.quiet < 500 {
		t.Error("too few of one kind:", seen)
	}
}
