package sample

import (
	"fmt"
	"math/rand"
	"testing"

	"jetsam/check"
)

func TestSystemsAreRight(t *testing.T) {
	random := rand.New(rand.NewSource(1))
	for range 2000 {
		for _, p := range []check.Prog{Prog(random.Intn), Calm(random.Intn)} {
			if !check.Right(p) {
				t.Fatal(p)
			}
		}
	}
	least, most := func(n int) int { return 0 }, func(n int) int { return n - 1 }
	for _, p := range []check.Prog{Prog(least), Prog(most), Calm(least), Calm(most)} {
		if !check.Right(p) {
			t.Error(p)
		}
	}
}

// What is picked decides all.
func TestSameChoicesSameSystem(t *testing.T) {
	a, b := rand.New(rand.NewSource(2)), rand.New(rand.NewSource(2))
	seen := map[string]bool{}
	for range 100 {
		one, other := fmt.Sprint(Prog(a.Intn)), fmt.Sprint(Prog(b.Intn))
		if one != other {
			t.Fatal(one, other)
		}
		seen[one] = true
	}
	if len(seen) < 50 {
		t.Error("few systems:", len(seen))
	}
}
