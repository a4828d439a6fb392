package sample

import (
	"math/rand"
	"testing"

	"jetsam/check"
	"jetsam/itv"
	"jetsam/queue"
)

func TestChannelsAreRight(t *testing.T) {
	random := rand.New(rand.NewSource(6))
	ruled := 0
	for range 3000 {
		c := Chan(random.Intn)
		p := check.Prog{Chans: []check.Chan{c}, Procs: make([]check.Proc, 4)}
		if !check.Right(p) {
			t.Fatal(c)
		}
		ruled += min(len(c.Rule), 1)
	}
	if ruled < 1000 || ruled > 2000 {
		t.Error("too few of one kind:", ruled)
	}
}

func TestElemsHaveTheirMessages(t *testing.T) {
	random := rand.New(rand.NewSource(7))
	full, none, empty := 0, 0, 0
	for range 3000 {
		c := Chan(random.Intn)
		e := Elem(c, random.Intn)
		if len(e.Vals) != c.Tags || e.Len.Lo != 0 || e.Len.Hi < 0 || e.Len.Hi > c.Size {
			t.Fatal(c, e)
		}
		list := Messages(e, c.Size, random.Intn)
		if !queue.Has(e, list) {
			t.Fatal(e, list)
		}
		full += len(list) / c.Size
		none += max(0, 1-len(list))
		for _, i := range e.Vals {
			if i == itv.None() {
				empty++
			}
		}
	}
	if full < 300 || none < 300 || empty < 300 {
		t.Error("too few of one kind:", full, none, empty)
	}
}

func TestNoMoreMessagesThanAreAskedFor(t *testing.T) {
	random := rand.New(rand.NewSource(8))
	e := queue.Elem{Len: itv.Itv{Hi: 9}, Vals: []itv.Itv{itv.None(), itv.All()}}
	for range 300 {
		for _, most := range []int{-1, 0, 1, 4, 9, 30} {
			if got := len(Messages(e, most, random.Intn)); got > max(most, 0) || got > 9 {
				t.Fatal(most, got)
			}
		}
	}
}

func TestSameChoicesSameElem(t *testing.T) {
	for _, pick := range []func(int) int{func(n int) int { return 0 }, func(n int) int { return n - 1 }, func(n int) int { return 2 % n }} {
		c := Chan(pick)
		a, b := Elem(c, pick), Elem(c, pick)
		if !queue.Within(a, b) || !queue.Within(b, a) || !queue.Has(a, Messages(b, c.Size, pick)) {
			t.Error(a, b)
		}
	}
}
