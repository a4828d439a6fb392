package rule_test

import (
	"fmt"
	"math"
	"math/rand"
	"slices"
	"testing"

	"jetsam/check"
	"jetsam/rule"
	"jetsam/sample"
)

func TestP12_1_All(t *testing.T) {
	round := ruled(2, move{0, 0, 1}, move{1, 0, 2}, move{2, 0, 3}, move{3, 0, 4}, move{4, 0, 5}, move{5, 0, 6}, move{6, 0, 7}, move{7, 0, 0}, move{7, 1, 7})
	back := ruled(2, move{0, 1, 7}, move{7, 0, 6}, move{6, 0, 5}, move{5, 1, 4}, move{4, 0, 3})
	for _, x := range []struct {
		what string
		c    check.Chan
		tags []int
		want rule.Set
	}{
		{"no tags", round, nil, set(0)},
		{"all round", round, []int{0}, 255},
		{"all round, by both", round, []int{1, 0}, 255},
		{"nowhere", round, []int{1}, set(0)},
		{"a tag twice", round, []int{0, 0}, 255},
		{"one way", back, []int{1}, set(0, 7)},
		{"nowhere by the other tag", back, []int{0}, set(0)},
		{"by both", back, []int{0, 1}, set(0, 3, 4, 5, 6, 7)},
		{"in the other order", back, []int{1, 0}, set(0, 3, 4, 5, 6, 7)},
		{"with tags that there aren't", back, []int{-1, 1, 2}, set(0, 7)},
		{"only tags that there aren't", back, []int{-1, 2, math.MaxInt, math.MinInt}, set(0)},
	} {
		if got := rule.All(x.c, x.tags); got != x.want {
			t.Error(x.what, rule.List(got))
		}
	}
}

// reached tells by hand which states a rule comes to from 0 by these tags.
func reached(c check.Chan, tags []int) rule.Set {
	var seen [8]bool
	var walk func(state int)
	walk = func(state int) {
		if seen[state] {
			return
		}
		seen[state] = true
		for _, tag := range tags {
			if tag >= 0 && tag < c.Tags && c.Rule[state][tag] >= 0 {
				walk(c.Rule[state][tag])
			}
		}
	}
	walk(0)
	var list []int
	for state, has := range seen {
		if has {
			list = append(list, state)
		}
	}
	return set(list...)
}

func TestP12_1_AllHasNoMore(t *testing.T) {
	random := rand.New(rand.NewSource(123))
	counts := map[int]int{}
	for range 5000 {
		c := withRule(t, random)
		tags := row(random, c.Tags)
		want := reached(c, tags)
		if got := rule.All(c, tags); got != want {
			t.Fatal(c, tags, rule.List(got), rule.List(want))
		}
		counts[len(rule.List(want))]++
	}
	for n := 1; n <= 8; n++ {
		if counts[n] < 5 {
			t.Error("too few of", n, "states:", counts)
		}
	}
}

// Of all rows of tags, up to some length: where they lead is in All.
func TestP12_2_AllHasWhereRowsLead(t *testing.T) {
	random := rand.New(rand.NewSource(124))
	for range 400 {
		c := sample.Chan(random.Intn)
		var tags []int
		for tag := range c.Tags {
			if random.Intn(3) > 0 {
				tags = append(tags, tag)
			}
		}
		all := rule.All(c, tags)
		rows := [][]int{nil}
		for len(rows) < 300 && len(rows[0]) < 10 {
			longer := [][]int{}
			for _, some := range rows {
				state, _ := rule.Steps(c, rule.Start(), some)
				for _, s := range rule.List(state) {
					if !rule.Has(all, s) {
						t.Fatal(c, tags, some, s)
					}
				}
				for _, tag := range tags {
					longer = append(longer, append(slices.Clone(some), tag))
				}
			}
			if rows = longer; len(rows) == 0 {
				break
			}
		}
	}
}

// A state that goes on by random tags, as long as it likes, stays in All.
func TestP12_2_LongRows(t *testing.T) {
	random := rand.New(rand.NewSource(125))
	for range 500 {
		c := withRule(t, random)
		tags := []int{random.Intn(c.Tags), random.Intn(c.Tags)}
		all, state := rule.All(c, tags), 0
		for range 200 {
			if !rule.Has(all, state) {
				t.Fatal(c, tags, state)
			}
			if to := c.Rule[state][tags[random.Intn(2)]]; to >= 0 {
				state = to
			}
		}
		for _, tag := range tags {
			if next, _ := rule.Step(c, all, tag); next|all != all {
				t.Fatal(c, tags, next)
			}
		}
	}
}

// Nothing that is handed in is changed, and no answer is another one's memory.
func TestP12_1_NothingIsChangedOrShared(t *testing.T) {
	random := rand.New(rand.NewSource(126))
	for range 1000 {
		c := sample.Chan(random.Intn)
		for state := range c.Rule {
			c.Rule[state] = append(c.Rule[state], 5)[:c.Tags]
		}
		c.Rule = append(c.Rule, []int{99})[:len(c.Rule)]
		tags := append(row(random, c.Tags), 99)
		words := fmt.Sprint(c, c.Rule[:cap(c.Rule)], tags)
		s := rule.Set(random.Intn(256))
		rule.Step(c, s, 0)
		rule.Steps(c, s, tags[:len(tags)-1])
		rule.All(c, tags[:len(tags)-1])
		if fmt.Sprint(c, c.Rule[:cap(c.Rule)], tags) != words {
			t.Fatal("changed", words)
		}
		one, other := rule.List(s), rule.List(s)
		for at := range cap(one) {
			one[:cap(one)][at] = -1
		}
		if !slices.Equal(other, rule.List(s)) {
			t.Fatal("two lists have one memory")
		}
	}
}

// Of channels that can't be nothing is said, but that all calls end.
func TestP12_1_ChannelsThatCantBe(t *testing.T) {
	random := rand.New(rand.NewSource(127))
	numbers := []int{math.MinInt, math.MinInt + 1, -1 << 32, -64, -8, -2, -1, 0, 1, 2, 3, 6, 7, 8, 9, 63, 64, 255, 256, 1 << 32, math.MaxInt - 1, math.MaxInt}
	some := func() int { return numbers[random.Intn(len(numbers))] }
	for range 20000 {
		c := check.Chan{Kind: some(), Size: some(), From: some(), To: some(), Tags: some()}
		for range random.Intn(12) {
			var states []int
			for range random.Intn(7) {
				states = append(states, some())
			}
			c.Rule = append(c.Rule, states)
		}
		tags := []int{some(), random.Intn(5), random.Intn(5), some()}
		for _, s := range []rule.Set{rule.Start(), 255, rule.Set(random.Intn(256)), rule.Set(random.Intn(256))} {
			rule.Step(c, s, tags[random.Intn(4)])
			rule.Steps(c, s, tags)
		}
		if all := rule.All(c, tags); !rule.Has(all, 0) {
			t.Fatal(c, tags, all)
		}
		rule.All(c, nil)
	}
}
