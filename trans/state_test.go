package trans_test

import (
	"math/rand"
	"testing"

	"jetsam/flow"
	"jetsam/itv"
	"jetsam/num"
	"jetsam/rule"
	"jetsam/sample"
	"jetsam/trans"
)

const twoText = "chan c block 2 from p to q { a , b } ; chan d drop 16 from q to p { e } ; rule c { 0 a 1 ; 1 b 2 ; 2 a 0 ; } " +
	"proc p { var x ; var y ; recv d { e ( x ) { } } } proc q { var z ; }"

func TestP14_1_StartAndNone(t *testing.T) {
	s := system(t, twoText)
	for proc, vars := range []int{2, 1} {
		start := trans.State{N: num.Zeros(vars), Counts: []itv.Itv{between(0, 0), between(0, 0)}, Rules: []rule.Set{1, 1}}
		none := trans.State{N: num.None(vars), Counts: []itv.Itv{empty, empty}, Rules: []rule.Set{0, 0}}
		want(t, "Start", trans.Start(s, proc), start)
		want(t, "None", trans.None(s, proc), none)
		if trans.Empty(start) || !trans.Empty(none) {
			t.Error("Empty")
		}
	}
	bare := system(t, "proc p { }")
	want(t, "Start", trans.Start(bare, 0), trans.State{N: num.Zeros(0)})
	want(t, "None", trans.None(bare, 0), trans.State{N: num.None(0)})
	// N alone tells whether nothing may be so.
	a := trans.Start(s, 0)
	a.Counts[0], a.Rules[1] = empty, 0
	if trans.Empty(a) {
		t.Error("Empty", a)
	}
	a.N = num.None(2)
	a.Counts[0], a.Rules[1] = between(0, 1), 1
	if !trans.Empty(a) {
		t.Error("not Empty", a)
	}
}

func TestP14_1_Within(t *testing.T) {
	s := system(t, twoText)
	a := trans.State{N: box(between(1, 4), between(2, 3)), Counts: []itv.Itv{between(1, 2), between(0, 5)}, Rules: []rule.Set{5, 1}}
	for what, x := range map[string]struct {
		within bool
		put    func(b *trans.State)
	}{
		"itself":          {true, func(b *trans.State) {}},
		"more numbers":    {true, func(b *trans.State) { b.N = box(between(0, 4), between(2, 3)) }},
		"fewer numbers":   {false, func(b *trans.State) { b.N = box(between(2, 4), between(2, 3)) }},
		"fewer distances": {false, func(b *trans.State) { b.N = num.Bound(b.N, 0, 1, 1) }},
		"none":            {false, func(b *trans.State) { *b = trans.None(s, 0) }},
		"no numbers":      {false, func(b *trans.State) { b.N = num.None(2) }},
		"more counts":     {true, func(b *trans.State) { b.Counts[0] = between(0, 3) }},
		"a greater least": {false, func(b *trans.State) { b.Counts[0] = between(2, 2) }},
		"a lesser most":   {false, func(b *trans.State) { b.Counts[1] = between(0, 4) }},
		"no counts":       {false, func(b *trans.State) { b.Counts[1] = empty }},
		"more states":     {true, func(b *trans.State) { b.Rules[0], b.Rules[1] = 7, 255 }},
		"fewer states":    {false, func(b *trans.State) { b.Rules[0] = 4 }},
		"other states":    {false, func(b *trans.State) { b.Rules[1] = 254 }},
		"no states":       {false, func(b *trans.State) { b.Rules[1] = 0 }},
		"other variables": {false, func(b *trans.State) { b.N = num.Top(1) }},
		"fewer channels":  {false, func(b *trans.State) { b.Counts, b.Rules = b.Counts[:1], b.Rules[:1] }},
		"all":             {true, func(b *trans.State) { *b = everything(2) }},
	} {
		b := trans.State{N: a.N, Counts: append([]itv.Itv{}, a.Counts...), Rules: append([]rule.Set{}, a.Rules...)}
		x.put(&b)
		if trans.Within(a, b) != x.within {
			t.Error(what, a, b)
		}
		if !trans.Within(trans.None(s, 0), b) || !trans.Within(trans.State{N: num.None(2), Counts: []itv.Itv{between(3, 9), between(3, 9)}, Rules: []rule.Set{255, 255}}, b) {
			t.Error("what is empty isn't within", b)
		}
	}
}

// everything has all that a state of two channels may have.
func everything(vars int) trans.State {
	return trans.State{N: num.Top(vars), Counts: []itv.Itv{between(0, 17), between(0, 17)}, Rules: []rule.Set{255, 255}}
}

func TestP14_1_JoinAndWiden(t *testing.T) {
	a := trans.State{N: box(between(1, 4), between(2, 3)), Counts: []itv.Itv{between(1, 2), between(0, 5)}, Rules: []rule.Set{5, 1}}
	b := trans.State{N: box(between(3, 5), between(2, 2)), Counts: []itv.Itv{between(0, 1), between(4, 6)}, Rules: []rule.Set{2, 1}}
	joined := trans.State{N: num.Join(a.N, b.N), Counts: []itv.Itv{between(0, 2), between(0, 6)}, Rules: []rule.Set{7, 1}}
	want(t, "Join", trans.Join(a, b), joined)
	want(t, "Join", trans.Join(b, a), joined)
	want(t, "Join", trans.Join(a, a), a)
	want(t, "Widen", trans.Widen(a, b), trans.State{N: num.Widen(a.N, b.N), Counts: []itv.Itv{between(0, 2), between(0, 17)}, Rules: []rule.Set{7, 1}})
	want(t, "Widen", trans.Widen(b, a), trans.State{N: num.Widen(b.N, a.N), Counts: []itv.Itv{between(0, 17), between(0, 6)}, Rules: []rule.Set{7, 1}})
	want(t, "Widen", trans.Widen(a, a), a)
	for _, none := range []trans.State{{N: num.None(2), Counts: []itv.Itv{empty, empty}, Rules: []rule.Set{0, 0}}, {N: num.None(2), Counts: []itv.Itv{between(3, 9), between(3, 9)}, Rules: []rule.Set{255, 255}}} {
		want(t, "Join", trans.Join(a, none), a)
		want(t, "Join", trans.Join(none, a), a)
		want(t, "Widen", trans.Widen(a, none), a)
		want(t, "Widen", trans.Widen(none, a), a)
	}
	none, other := trans.None(system(t, twoText), 0), trans.State{N: num.None(2), Counts: []itv.Itv{between(3, 9), empty}, Rules: []rule.Set{3, 0}}
	for _, x := range [][2]trans.State{{none, other}, {other, none}} {
		want(t, "Join", trans.Join(x[0], x[1]), x[1])
		want(t, "Widen", trans.Widen(x[0], x[1]), x[1])
	}
}

func TestP14_1_WidenedCounts(t *testing.T) {
	zeros := num.Zeros(0)
	for _, x := range [][3]itv.Itv{
		{between(0, 0), between(0, 1), between(0, 17)},
		{between(2, 3), between(2, 3), between(2, 3)},
		{between(2, 3), between(3, 3), between(2, 3)},
		{between(2, 3), between(1, 3), between(0, 3)},
		{between(2, 3), between(2, 4), between(2, 17)},
		{between(2, 3), between(5, 6), between(2, 17)},
		{between(2, 3), between(0, 1), between(0, 3)},
		{between(2, 3), between(0, 17), between(0, 17)},
		{between(17, 17), between(16, 17), between(0, 17)},
		{between(0, 17), between(0, 17), between(0, 17)},
	} {
		want(t, "Widen", trans.Widen(one(zeros, x[0], 1), one(zeros, x[1], 1)), one(zeros, x[2], 1), x)
	}
}

func TestP14_1_JoinInWords(t *testing.T) {
	random := rand.New(rand.NewSource(144))
	for range 3000 {
		s, _ := sample.Sys(random.Intn)
		proc := random.Intn(len(s.Graphs))
		a, b := sample.State(s, proc, random.Intn), sample.State(s, proc, random.Intn)
		joined, widened := trans.Join(a, b), trans.Widen(a, b)
		if !trans.Within(a, joined) || !trans.Within(b, joined) || !trans.Within(joined, widened) {
			t.Fatal(a, b, joined, widened)
		}
		if !num.Right(joined.N) || !num.Right(widened.N) {
			t.Fatal("not Right", joined, widened)
		}
		if trans.Within(a, b) != (trans.Empty(a) || same(joined, b)) {
			t.Fatal("Within", a, b, joined)
		}
		if trans.Empty(a) || trans.Empty(b) {
			continue
		}
		if !same(joined.N, num.Join(a.N, b.N)) || !same(widened.N, num.Widen(a.N, b.N)) {
			t.Fatal(a, b, joined, widened)
		}
		for at := range s.Chans {
			lo, hi := min(a.Counts[at].Lo, b.Counts[at].Lo), max(a.Counts[at].Hi, b.Counts[at].Hi)
			states := a.Rules[at] | b.Rules[at]
			if joined.Counts[at] != between(lo, hi) || joined.Rules[at] != states || widened.Rules[at] != states {
				t.Fatal(a, b, joined, widened)
			}
			if lo < a.Counts[at].Lo {
				lo = 0
			}
			if hi > a.Counts[at].Hi {
				hi = 17
			}
			if widened.Counts[at] != between(lo, hi) {
				t.Fatal(a, b, widened)
			}
		}
	}
}

// Of ever more that are widened there are few others: it ends.
func TestP14_1_WidenEnds(t *testing.T) {
	random := rand.New(rand.NewSource(145))
	longest := 0
	for range 300 {
		s, _ := sample.Sys(random.Intn)
		proc := random.Intn(len(s.Graphs))
		now, others := trans.None(s, proc), 0
		for range 200 {
			next := trans.Widen(now, sample.State(s, proc, random.Intn))
			if !same(next, now) {
				others++
			}
			now = next
		}
		longest = max(longest, others)
		if others > 1+14+len(s.Chans)*(2+8) {
			t.Fatal(others, "others")
		}
	}
	if longest < 5 {
		t.Error("no chain is long:", longest)
	}
}

func TestP14_1_Deaf(t *testing.T) {
	s := system(t, twoText)
	if got := trans.Deaf(s); !same(got, []bool{true, false}) {
		t.Error(got)
	}
	s = system(t, "chan c lossy 1 from p to q { a } ; chan d block 1 from q to r { a } ; chan e drop 1 from r to p { a } ; chan f block 1 from p to r { a , b } ; "+
		"proc p { var x ; while ( 1 == 2 ) { if ( 1 == 1 ) { } else { recv e { a ( x ) { } } } } send c . a ( 1 ) ; send f . a ( 1 ) ; } proc q { var x ; recv c { a ( x ) { recv c { a ( x ) { } } } } send d . a ( 2 ) ; } proc r { send e . a ( 1 ) ; }")
	if got := trans.Deaf(s); !same(got, []bool{false, true, false, true}) {
		t.Error(got)
	}
	if got := trans.Deaf(system(t, "proc p { }")); len(got) != 0 {
		t.Error(got)
	}
	random := rand.New(rand.NewSource(146))
	for range 1000 {
		s, _ := sample.Sys(random.Intn)
		deaf := make([]bool, len(s.Chans))
		for at, c := range s.Chans {
			deaf[at] = true
			for _, e := range s.Graphs[c.To].Edges {
				if e.Kind == flow.Recv && e.Chan == at {
					deaf[at] = false
				}
			}
		}
		if got := trans.Deaf(s); !same(got, deaf) {
			t.Fatal(s, got, deaf)
		}
	}
}
