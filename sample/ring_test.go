package sample

import (
	"math/rand"
	"testing"

	"jetsam/api"
	"jetsam/ast"
	"jetsam/flow"
)

func TestRingsAreTextsOfSystems(t *testing.T) {
	random := rand.New(rand.NewSource(11))
	for range 1000 {
		text := Ring(random.Intn)
		s, err := Text(text)
		if err != api.OK || !flow.Right(s) || len(s.Chans) != len(s.Graphs) {
			t.Fatal(text, err)
		}
	}
	for _, pick := range []func(int) int{func(n int) int { return 0 }, func(n int) int { return n - 1 }} {
		if s, err := Text(Ring(pick)); err != api.OK || !flow.Right(s) {
			t.Error(Ring(pick), err)
		}
	}
}

// What has names for its places has a text, but for systems that are too long.
func TestNamedSystemsHaveTexts(t *testing.T) {
	random := rand.New(rand.NewSource(12))
	long := 0
	for range 1000 {
		text, err := ast.Text(Named(Calm(random.Intn)))
		if err == api.ErrLong {
			long++
			continue
		}
		if _, again := Text(text); err != api.OK || again != api.OK && again != api.ErrCount {
			t.Fatal(text, err, again)
		}
	}
	if long > 500 {
		t.Error("many have none:", long)
	}
}
