package sample

import (
	"math/rand"
	"testing"

	"jetsam/api"
	"jetsam/conf"
	"jetsam/flow"
	"jetsam/step"
)

func TestText(t *testing.T) {
	s, err := Text("proc p { var x ; input x ; }")
	if err != api.OK || len(s.Graphs) != 1 || s.Graphs[0].Edges[0].Kind != flow.Input {
		t.Error(s, err)
	}
	for text, want := range map[string]api.Errno{"proc": api.ErrForm, "": api.ErrCount} {
		if s, err := Text(text); err != want || len(s.Graphs) > 0 {
			t.Error(text, s, err)
		}
	}
}

func TestGraphsAndConfigurationsAreRight(t *testing.T) {
	random := rand.New(rand.NewSource(3))
	full, empty, ended := 0, 0, 0
	for range 1000 {
		s, p := Sys(random.Intn)
		if !flow.Right(s) || len(p.Procs) != len(s.Graphs) {
			t.Fatal(s)
		}
		c := Conf(s, random.Intn)
		if !conf.Right(s, c) {
			t.Fatal(s, c)
		}
		for i, q := range c.Queues {
			if len(q) == s.Chans[i].Size {
				full++
			} else if len(q) == 0 {
				empty++
			}
		}
		for _, at := range c.At {
			ended += max(0, 2-at) % 2
		}
	}
	if full < 100 || empty < 100 || ended < 100 {
		t.Error("too few of one kind:", full, empty, ended)
	}
}

// Runs of calm systems go on where those of others end.
func TestCalmSystemsRunOn(t *testing.T) {
	random := rand.New(rand.NewSource(9))
	errors := [2]int{}
	for range 1000 {
		other, _ := Sys(random.Intn)
		calm, p := CalmSys(random.Intn)
		if !flow.Right(calm) || len(p.Procs) != len(calm.Graphs) {
			t.Fatal(calm)
		}
		for at, s := range []flow.Sys{other, calm} {
			var script []step.Pick
			for range 100 {
				script = append(script, step.Pick{Proc: random.Intn(len(s.Graphs))})
			}
			if _, done, _ := step.Run(s, script); done.Kind != 0 {
				errors[at]++
			}
		}
	}
	if errors[1] > 400 || errors[1] > errors[0]/2 {
		t.Error("many errors:", errors)
	}
}

// A process of too many edges is none; and all choices of one kind end.
func TestGreatestSystem(t *testing.T) {
	for _, pick := range []func(int) int{func(n int) int { return 0 }, func(n int) int { return n - 1 }, func(n int) int { return 4 % n }} {
		s, _ := Sys(pick)
		if !flow.Right(s) || !conf.Right(s, Conf(s, pick)) {
			t.Error(s)
		}
	}
}

func TestApart(t *testing.T) {
	made := func() conf.Conf {
		return conf.Conf{
			At: make([]int, 1, 3), States: make([]int, 2),
			Vars:   append(make([][]int, 0, 4), make([]int, 2), nil, make([]int, 1, 5)),
			Queues: [][]conf.Msg{make([]conf.Msg, 2, 9), {}},
		}
	}
	if a := made(); !Apart() || !Apart(a) || !Apart(made(), made(), conf.Conf{}) {
		t.Error("lists of their own aren't apart")
	}
	for i, put := range []func(a, b *conf.Conf){
		func(a, b *conf.Conf) { a.At = b.At },
		func(a, b *conf.Conf) { a.At = b.States },
		func(a, b *conf.Conf) { a.At = b.At[:0] },
		func(a, b *conf.Conf) { a.At, b.At = b.At[:1], b.At[2:3] },
		func(a, b *conf.Conf) { a.Vars = b.Vars },
		func(a, b *conf.Conf) { a.Vars = append(b.Vars[:0:0], b.Vars...) },
		func(a, b *conf.Conf) { a.Vars[1] = b.States[1:] },
		func(a, b *conf.Conf) { a.Vars[0] = a.Vars[2][4:5] },
		func(a, b *conf.Conf) { a.Vars[:4][3] = a.Vars[2] },
		func(a, b *conf.Conf) { a.Queues[0] = b.Queues[0] },
		func(a, b *conf.Conf) { a.Queues[1] = a.Queues[0][8:9] },
		func(a, b *conf.Conf) { a.Queues = b.Queues },
	} {
		a, b := made(), made()
		put(&a, &b)
		if Apart(a, b) {
			t.Error("apart, with shared memory", i)
		}
	}
}
