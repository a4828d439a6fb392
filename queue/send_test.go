package queue_test

import (
	"fmt"
	"math/rand"
	"slices"
	"testing"

	"jetsam/check"
	"jetsam/conf"
	"jetsam/itv"
	"jetsam/queue"
	"jetsam/sample"
)

func TestP11_2_SendHasAll(t *testing.T) {
	random := rand.New(rand.NewSource(114))
	full, more := 0, 0
	for range 20000 {
		c := sample.Chan(random.Intn)
		e, tag, i := sample.Elem(c, random.Intn), random.Intn(c.Tags), sample.Itv(random.Intn)
		list := sample.Messages(e, c.Size, random.Intn)
		behind := queue.Send(c, e, tag, i)
		if !inside(e, list) || !queue.Has(behind, list) {
			t.Fatal(c, e, tag, i, list)
		}
		if i.Lo > i.Hi {
			continue
		}
		for _, val := range []int{i.Lo, i.Hi, i.Lo + random.Intn(i.Hi-i.Lo+1)} {
			longer := append(slices.Clone(list), conf.Msg{Tag: tag, Val: val})
			if queue.Has(behind, longer) != (len(longer) <= c.Size) {
				t.Fatal(c, e, tag, i, longer)
			}
		}
		full += len(list) / c.Size
		more += max(0, min(1, c.Size-len(list)))
	}
	if full < 1000 || more < 1000 {
		t.Error("too few of one kind:", full, more)
	}
}

// Where at least so many messages were, there may be any count behind.
func TestP11_2_FewerMessages(t *testing.T) {
	for size := 1; size <= 16; size++ {
		for lo := range size + 1 {
			e := queue.Send(channel(size, 1), elem(lo, size, one(4)), 0, one(4))
			for many := range size + 2 {
				if queue.Has(e, messages(many, 0, 4)) != (many <= size) {
					t.Error(size, lo, many)
				}
			}
		}
	}
}

// Send has no number that is neither between the old ones nor the new ones, and
// nothing more of another tag.
func TestP11_2_SendHasNoMore(t *testing.T) {
	random := rand.New(rand.NewSource(115))
	for range 5000 {
		c := sample.Chan(random.Intn)
		e, tag, i := sample.Elem(c, random.Intn), random.Intn(c.Tags), sample.Itv(random.Intn)
		behind := queue.Send(c, e, tag, i)
		for other := range c.Tags {
			union := e.Vals[other]
			if other == tag && i.Lo <= i.Hi {
				union = itv.Join(union, i)
			}
			for _, val := range []int{least, i.Lo - 1, i.Lo, i.Hi, i.Hi + 1, e.Vals[other].Lo - 1, e.Vals[other].Hi + 1, most} {
				list := messages(1, other, val)
				if queue.Has(behind, list) != (union.Lo <= val && val <= union.Hi && behind.Len.Hi >= 1) {
					t.Fatal(c, e, tag, i, list)
				}
			}
		}
	}
}

// A channel that is filled and emptied message by message always has what is told.
func TestP11_2_ManySends(t *testing.T) {
	random := rand.New(rand.NewSource(116))
	full := 0
	for range 500 {
		c := sample.Chan(random.Intn)
		e, list := queue.None(c), []conf.Msg(nil)
		for range 60 {
			if len(list) == c.Size || random.Intn(3) == 0 {
				full += len(list) / c.Size
				list = list[min(1, len(list)):]
			} else {
				m := conf.Msg{Tag: random.Intn(c.Tags), Val: sample.Number(random.Intn)}
				e, list = queue.Send(c, e, m.Tag, one(m.Val)), append(list, m)
			}
			if !queue.Has(e, list) {
				t.Fatal(c, e, list)
			}
		}
		if e.Len.Lo != 0 || e.Len.Hi > c.Size {
			t.Fatal(c, e)
		}
	}
	if full < 500 {
		t.Error("too few were full:", full)
	}
}

// roomy has spare room behind its list, with something in it.
func roomy(e queue.Elem) queue.Elem {
	e.Vals = append(slices.Clone(e.Vals), one(99), one(98))[:len(e.Vals)]
	return e
}

// spoil writes over all of a list, its spare room, too.
func spoil(e queue.Elem) {
	for at := range cap(e.Vals) {
		e.Vals[:cap(e.Vals)][at] = itv.Itv{Lo: 77, Hi: -77}
	}
}

func TestP11_3_NothingIsChangedOrShared(t *testing.T) {
	random := rand.New(rand.NewSource(117))
	for range 3000 {
		c := sample.Chan(random.Intn)
		a, b := roomy(sample.Elem(c, random.Intn)), roomy(sample.Elem(c, random.Intn))
		if random.Intn(3) == 0 {
			b.Vals = b.Vals[:random.Intn(c.Tags)]
		}
		list := append(sample.Messages(a, c.Size, random.Intn), conf.Msg{Tag: 55})
		row := list[:len(list)-1]
		words := fmt.Sprint(c, a, b, a.Vals[:cap(a.Vals)], b.Vals[:cap(b.Vals)], list)
		told := []queue.Elem{queue.None(c), queue.Join(a, b), queue.Widen(a, b), queue.Join(b, a), queue.Widen(b, a)}
		for _, tag := range []int{-1, 0, c.Tags - 1, c.Tags} {
			told = append(told, queue.Send(c, a, tag, sample.Itv(random.Intn)), queue.Send(c, b, tag, one(4)))
		}
		tags := [][]int{queue.Tags(a), queue.Tags(a)}
		queue.Has(a, row)
		queue.Has(b, row)
		queue.Within(a, b)
		if words != fmt.Sprint(c, a, b, a.Vals[:cap(a.Vals)], b.Vals[:cap(b.Vals)], list) {
			t.Fatal("changed", words)
		}
		kept := fmt.Sprint(told)
		spoil(a)
		spoil(b)
		if kept != fmt.Sprint(told) {
			t.Fatal("an answer has the memory of what was handed in", words)
		}
		for at, e := range told {
			others := fmt.Sprint(told[at+1:])
			spoil(e)
			if others != fmt.Sprint(told[at+1:]) {
				t.Fatal("two answers have one memory", words)
			}
		}
		tagsApart(t, tags[0], tags[1])
	}
}

func tagsApart(t *testing.T, a, b []int) {
	t.Helper()
	kept := fmt.Sprint(b)
	for at := range cap(a) {
		a[:cap(a)][at] = -1
	}
	if fmt.Sprint(b) != kept {
		t.Fatal("two lists of tags have one memory")
	}
}

func TestP1_WhateverIsAsked(t *testing.T) {
	random := rand.New(rand.NewSource(118))
	numbers := wild()
	some := func() int { return numbers[random.Intn(len(numbers))] }
	wildElem := func() queue.Elem {
		e := elem(some(), some())
		for range random.Intn(7) {
			e.Vals = append(e.Vals, itv.Itv{Lo: some(), Hi: some()})
		}
		return e
	}
	for range 20000 {
		c := check.Chan{Kind: some(), Size: some(), From: some(), To: some(), Tags: random.Intn(9) - 2}
		if random.Intn(2) == 0 {
			c.Tags = []int{-1 << 63, 1 << 32, 1 << 40, 1<<63 - 1, 1<<63 - 2}[random.Intn(5)]
		}
		a, b := wildElem(), wildElem()
		queue.None(c)
		queue.Send(c, a, some(), itv.Itv{Lo: some(), Hi: some()})
		queue.Send(c, b, random.Intn(4), itv.All())
		queue.Has(a, []conf.Msg{{Tag: some(), Val: some()}, {Tag: some(), Val: some()}})
		queue.Within(a, b)
		queue.Join(a, b)
		queue.Widen(a, b)
		queue.Tags(a)
	}
}

// Of a channel that can't be, and of counts that can't be, Send tells an Elem of
// numbers that there are.
func TestP1_SendOnChannelsThatCantBe(t *testing.T) {
	for _, size := range wild() {
		for _, hi := range wild() {
			e := queue.Send(channel(size, 1), elem(0, hi, one(0)), 0, one(0))
			if e.Len != nothing && (e.Len.Lo != 0 || e.Len.Hi < 0 || e.Len.Hi > min(most, size)) {
				t.Error(size, hi, e)
			}
		}
	}
}
