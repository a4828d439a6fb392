package rule_test

import (
	"math"
	"math/rand"
	"slices"
	"testing"

	"jetsam/check"
	"jetsam/rule"
	"jetsam/sample"
)

func TestP12_1_Plain(t *testing.T) {
	if rule.Start() != 1 || !slices.Equal(rule.List(rule.Start()), []int{0}) {
		t.Error("Start", rule.Start())
	}
	for n := range 256 {
		s := rule.Set(n)
		var list []int
		for state, has := range states(s) {
			if rule.Has(s, state) != has {
				t.Error("Has", n, state)
			}
			if has {
				list = append(list, state)
			}
		}
		if got := rule.List(s); !slices.Equal(got, list) {
			t.Error("List", n, got)
		}
		for _, state := range []int{math.MinInt, -1 << 32, -8, -1, 8, 9, 15, 16, 63, 64, 256, 1 << 32, 1<<32 + 1, math.MaxInt} {
			if rule.Has(s, state) {
				t.Error("Has", n, state)
			}
		}
	}
}

// The lowest bit is state 0's, the highest one state 7's.
func TestP12_1_Bits(t *testing.T) {
	for state, n := range []rule.Set{1, 2, 4, 8, 16, 32, 64, 128} {
		if !rule.Has(n, state) || !slices.Equal(rule.List(n), []int{state}) {
			t.Error(state)
		}
	}
	if !slices.Equal(rule.List(129), []int{0, 7}) || len(rule.List(0)) > 0 {
		t.Error("List", rule.List(129), rule.List(0))
	}
}

func TestP12_1_WithoutARule(t *testing.T) {
	for _, rows := range [][][]int{nil, {}} {
		c := check.Chan{Size: 1, To: 1, Tags: 2, Rule: rows}
		for n := range 256 {
			s := rule.Set(n)
			for _, tag := range append(beyond(2), 0, 1) {
				if got, broken := rule.Step(c, s, tag); got != s || broken {
					t.Fatal("Step", n, tag, got, broken)
				}
				if got, broken := rule.Steps(c, s, []int{tag, 1, tag}); got != s || broken {
					t.Fatal("Steps", n, tag, got, broken)
				}
				if got := rule.All(c, []int{0, tag}); got != rule.Start() {
					t.Fatal("All", tag, got)
				}
			}
		}
	}
}

func TestP12_1_Step(t *testing.T) {
	c := ruled(3, move{0, 0, 7}, move{7, 1, 0}, move{7, 0, 7}, move{2, 0, 3}, move{3, 0, 3}, move{3, 2, 0})
	for _, x := range []struct {
		what   string
		s      rule.Set
		tag    int
		want   rule.Set
		broken bool
	}{
		{"from 0 to 7", set(0), 0, set(7), false},
		{"from 7 to 0", set(7), 1, set(0), false},
		{"from 7 to itself", set(7), 0, set(7), false},
		{"from both to 7", set(0, 7), 0, set(7), false},
		{"one of two has no move", set(0, 7), 1, set(0), true},
		{"two to two", set(0, 2), 0, set(3, 7), false},
		{"three to two", set(0, 2, 3), 0, set(3, 7), false},
		{"a state without moves", set(1), 0, 0, true},
		{"another tag", set(0), 1, 0, true},
		{"the last tag", set(3), 2, set(0), false},
		{"all states", 255, 0, set(3, 7), true},
		{"no states", 0, 0, 0, false},
		{"a tag below", set(0), -1, 0, true},
		{"a tag above", set(0), 3, 0, true},
		{"a tag above, of all states", 255, 3, 0, true},
	} {
		if got, broken := rule.Step(c, x.s, x.tag); got != x.want || broken != x.broken {
			t.Error(x.what, rule.List(got), broken)
		}
	}
	if !right(c) {
		t.Error("not Right")
	}
}

// A rule without moves, and one of a single state.
func TestP12_1_SmallRules(t *testing.T) {
	bare, single := ruled(1), ruled(1, move{0, 0, 0})
	for n := range 256 {
		if got, broken := rule.Step(bare, rule.Set(n), 0); got != 0 || broken != (n > 0) {
			t.Error(n, got, broken)
		}
		got, broken := rule.Step(single, rule.Set(n), 0)
		if got != rule.Set(n&1) || broken != (n > 1) {
			t.Error(n, got, broken)
		}
	}
	if rule.All(bare, []int{0}) != 1 || rule.All(single, []int{0, 0}) != 1 {
		t.Error("All")
	}
}

// Of a rule of fewer states than 8, the others are none.
func TestP12_1_StatesThatThereArent(t *testing.T) {
	for last := range 8 {
		var moves []move
		for from := range last + 1 {
			moves = append(moves, move{from, 0, last})
		}
		c := ruled(1, moves...)
		for state := range 8 {
			got, broken := rule.Step(c, set(state), 0)
			if state <= last && (got != set(last) || broken) || state > last && (got != 0 || !broken) {
				t.Error(last, state, got, broken)
			}
		}
		if got, broken := rule.Step(c, 255, 0); got != set(last) || broken != (last < 7) {
			t.Error(last, got, broken)
		}
	}
}

// Each set of states of each rule goes, state by state, where the rows say.
func TestP12_1_StepOfAllSets(t *testing.T) {
	random := rand.New(rand.NewSource(121))
	told := map[bool]int{}
	for range 300 {
		c := withRule(t, random)
		for n := range 256 {
			s := rule.Set(n)
			for _, tag := range append(beyond(c.Tags), 0, random.Intn(c.Tags), c.Tags-1) {
				want, stuck := stepped(c, s, tag)
				if got, broken := rule.Step(c, s, tag); got != want || broken != stuck {
					t.Fatal(c, s, tag, got, broken)
				}
				told[stuck]++
			}
		}
	}
	if told[true] < 1000 || told[false] < 1000 {
		t.Error("too few of one kind:", told)
	}
}

func TestP12_1_Steps(t *testing.T) {
	c := ruled(2, move{0, 0, 1}, move{1, 1, 2}, move{2, 0, 0}, move{2, 1, 2})
	for _, x := range []struct {
		s      rule.Set
		tags   []int
		want   rule.Set
		broken bool
	}{
		{set(0), nil, set(0), false},
		{set(7), nil, set(7), false},
		{0, []int{0, 1}, 0, false},
		{set(0), []int{0}, set(1), false},
		{set(0), []int{0, 1}, set(2), false},
		{set(0), []int{0, 1, 0}, set(0), false},
		{set(0), []int{0, 1, 1, 1}, set(2), false},
		{set(0), []int{1}, 0, true},
		{set(0), []int{1, 0, 1}, 0, true},
		{set(0), []int{0, 0, 1}, 0, true},
		{set(0), []int{0, 1, -1}, 0, true},
		{set(0, 2), []int{0, 1}, set(2), true},
		{set(0, 1), []int{1, 0}, set(0), true},
		{set(0, 2), []int{0}, set(0, 1), false},
		{set(0, 7), []int{0, 1, 0}, set(0), true},
	} {
		if got, broken := rule.Steps(c, x.s, x.tags); got != x.want || broken != x.broken {
			t.Error(rule.List(x.s), x.tags, rule.List(got), broken)
		}
	}
	random := rand.New(rand.NewSource(122))
	for range 3000 {
		c, s := sample.Chan(random.Intn), rule.Set(random.Intn(256))
		if len(c.Rule) == 0 {
			continue
		}
		want, stuck, tags := s, false, row(random, c.Tags)
		for _, tag := range tags {
			next, broken := stepped(c, want, tag)
			want, stuck = next, stuck || broken
		}
		if got, broken := rule.Steps(c, s, tags); got != want || broken != stuck {
			t.Fatal(c, s, tags, got, broken)
		}
	}
}

// row is some tags, at times one that there isn't.
func row(random *rand.Rand, tags int) []int {
	var list []int
	for range random.Intn(12) {
		tag := random.Intn(tags)
		if random.Intn(12) == 0 {
			tag = beyond(tags)[random.Intn(12)]
		}
		list = append(list, tag)
	}
	return list
}
