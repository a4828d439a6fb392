package queue_test

import (
	"math"
	"math/rand"
	"slices"
	"testing"

	"jetsam/check"
	"jetsam/conf"
	"jetsam/itv"
	"jetsam/queue"
	"jetsam/sample"
)

func TestP11_1_None(t *testing.T) {
	for tags := range 7 {
		for _, size := range []int{-1, 0, 1, 16, 17, math.MaxInt} {
			c := check.Chan{Kind: 2, Size: size, From: 1, Tags: tags, Rule: [][]int{{-1}}}
			want(t, "None", queue.None(c), elem(0, 0, slices.Repeat([]itv.Itv{nothing}, tags)...), c)
		}
	}
	for _, tags := range []int{-1, -4, least, math.MinInt} {
		want(t, "None", queue.None(channel(1, tags)), elem(0, 0), tags)
	}
	for _, tags := range []int{1 << 32, 1 << 40, math.MaxInt - 1, math.MaxInt} {
		if e := queue.None(channel(1, tags)); e.Len != one(0) {
			t.Error(tags, e.Len)
		}
	}
	random := rand.New(rand.NewSource(110))
	for range 1000 {
		c := sample.Chan(random.Intn)
		e := queue.None(c)
		if len(e.Vals) != c.Tags || len(queue.Tags(e)) > 0 || !queue.Has(e, nil) || queue.Has(e, messages(1, 0, 0)) {
			t.Fatal(c, e)
		}
	}
}

func TestP11_1_Example(t *testing.T) {
	c := channel(2, 1)
	e := queue.Send(c, queue.None(c), 0, itv.Itv{Lo: 3, Hi: 4})
	want(t, "Send", e, elem(0, 1, itv.Itv{Lo: 3, Hi: 4}))
}

func TestP11_1_Send(t *testing.T) {
	for _, x := range []struct {
		what string
		c    check.Chan
		e    queue.Elem
		tag  int
		i    itv.Itv
		want queue.Elem
	}{
		{"the first message", channel(3, 2), elem(0, 0, nothing, nothing), 1, one(7), elem(0, 1, nothing, one(7))},
		{"another tag's", channel(3, 2), elem(0, 1, nothing, one(7)), 0, one(8), elem(0, 2, one(8), one(7))},
		{"a second one", channel(3, 2), elem(0, 2, one(8), one(7)), 1, one(-5), elem(0, 3, one(8), itv.Itv{Lo: -5, Hi: 7})},
		{"with no room", channel(3, 2), elem(0, 3, one(8), one(7)), 0, one(9), elem(0, 3, itv.Itv{Lo: 8, Hi: 9}, one(7))},
		{"what was there", channel(3, 1), elem(0, 1, one(7)), 0, one(7), elem(0, 2, one(7))},
		{"some messages at least", channel(9, 1), elem(3, 5, one(7)), 0, one(7), elem(0, 6, one(7))},
		{"a full one", channel(9, 1), elem(9, 9, one(7)), 0, one(7), elem(0, 9, one(7))},
		{"more than there is room for", channel(9, 1), elem(12, 40, one(7)), 0, one(7), elem(0, 9, one(7))},
		{"any count", channel(16, 1), elem(0, most, one(7)), 0, one(7), elem(0, 16, one(7))},
		{"the greatest count", channel(16, 1), elem(0, math.MaxInt, one(7)), 0, one(7), elem(0, 16, one(7))},
		{"no count", channel(16, 1), elem(1, 0, one(7)), 0, one(7), elem(0, 1, one(7))},
		{"the least number", channel(1, 1), elem(0, 0, nothing), 0, one(least), elem(0, 1, one(least))},
		{"the greatest number", channel(1, 1), elem(0, 1, one(least)), 0, one(most), elem(0, 1, itv.All())},
		{"all numbers", channel(1, 1), elem(0, 1, itv.All()), 0, itv.All(), elem(0, 1, itv.All())},
		{"fewer numbers", channel(1, 1), elem(0, 1, itv.All()), 0, one(3), elem(0, 1, itv.All())},
		{"an empty one of another form", channel(2, 1), elem(0, 1, itv.Itv{Lo: 9, Hi: 2}), 0, one(3), elem(0, 2, one(3))},
		{"the last of four tags", channel(16, 4), elem(0, 15, one(1), one(2), one(3), one(4)), 3, one(5), elem(0, 16, one(1), one(2), one(3), itv.Itv{Lo: 4, Hi: 5})},
	} {
		want(t, "Send, "+x.what, queue.Send(x.c, x.e, x.tag, x.i), x.want)
	}
}

// Of each room and each count: one more, but no more than there is room for.
func TestP11_1_SendCounts(t *testing.T) {
	for size := 1; size <= 16; size++ {
		for hi := range 20 {
			for lo := range hi + 1 {
				e := queue.Send(channel(size, 1), elem(lo, hi, one(0)), 0, one(0))
				want(t, "Send", e, elem(0, min(hi+1, size), one(0)), size, lo, hi)
			}
		}
	}
}

func TestP11_1_SendOfNothing(t *testing.T) {
	random := rand.New(rand.NewSource(111))
	for range 500 {
		c := sample.Chan(random.Intn)
		e := sample.Elem(c, random.Intn)
		e.Len.Lo = random.Intn(3)
		for tag := range c.Tags {
			for _, i := range empties() {
				want(t, "Send of nothing", queue.Send(c, e, tag, i), e, c, tag, i)
			}
		}
		for _, tag := range beyond(c.Tags) {
			want(t, "Send of no tag", queue.Send(c, e, tag, one(4)), e, c, tag)
		}
	}
}

// An Elem of another count of tags than the channel's: a tag must be of both.
func TestP11_1_SendOfOtherCounts(t *testing.T) {
	for tags := -1; tags <= 6; tags++ {
		for many := range 7 {
			e := elem(0, 2, slices.Repeat([]itv.Itv{one(1)}, many)...)
			for tag := -2; tag < 9; tag++ {
				more := elem(0, 2, e.Vals...)
				if tag >= 0 && tag < tags && tag < many {
					more = elem(0, 3, slices.Clone(e.Vals)...)
					more.Vals[tag] = itv.Itv{Lo: 1, Hi: 2}
				}
				want(t, "Send", queue.Send(channel(4, tags), e, tag, one(2)), more, tags, many, tag)
			}
		}
	}
}

func TestP11_1_Has(t *testing.T) {
	e := elem(1, 3, itv.Itv{Lo: -2, Hi: 5}, nothing, itv.All(), itv.Itv{Lo: 7, Hi: 6})
	for _, x := range []struct {
		what string
		list []conf.Msg
		want bool
	}{
		{"no messages", nil, false},
		{"one", messages(1, 0, 0), true},
		{"as many as may be", messages(3, 0, 0), true},
		{"one more", messages(4, 0, 0), false},
		{"the least number", messages(1, 0, -2), true},
		{"below it", messages(1, 0, -3), false},
		{"the greatest number", messages(1, 0, 5), true},
		{"above it", messages(1, 0, 6), false},
		{"least of all", messages(2, 2, least), true},
		{"greatest of all", messages(2, 2, most), true},
		{"below all", messages(2, 2, least-1), false},
		{"above all", messages(2, 2, most+1), false},
		{"a tag of which there is none", messages(1, 1, 0), false},
		{"a number of none", messages(1, 1, 1), false},
		{"a tag of none in another form", messages(1, 3, 7), false},
		{"two tags", []conf.Msg{{Tag: 0, Val: 5}, {Tag: 2, Val: 99}}, true},
		{"the first one wrong", []conf.Msg{{Tag: 0, Val: 6}, {Tag: 2, Val: 99}}, false},
		{"the last one wrong", []conf.Msg{{Tag: 2, Val: 99}, {Tag: 0, Val: 5}, {Tag: 0, Val: -3}}, false},
		{"another tag's number", messages(1, 0, 99), false},
	} {
		if queue.Has(e, x.list) != x.want {
			t.Error(x.what)
		}
	}
	for _, tag := range beyond(4) {
		if queue.Has(e, messages(1, tag, 0)) || queue.Has(e, append(messages(1, 0, 0), messages(1, tag, 0)...)) {
			t.Error("tag", tag)
		}
	}
}

func TestP11_1_HasCounts(t *testing.T) {
	for lo := -2; lo <= 18; lo++ {
		for hi := -2; hi <= 18; hi++ {
			for many := range 20 {
				if queue.Has(elem(lo, hi, one(4)), messages(many, 0, 4)) != (lo <= many && many <= hi) {
					t.Error(lo, hi, many)
				}
			}
		}
	}
	if !queue.Has(elem(0, 0), nil) || queue.Has(elem(0, 5), messages(1, 0, 0)) || !queue.Has(queue.Elem{}, []conf.Msg{}) {
		t.Error("without tags")
	}
}

func TestP11_1_Within(t *testing.T) {
	big := elem(0, 3, itv.Itv{Lo: -2, Hi: 5}, nothing, itv.All())
	for _, x := range []struct {
		what string
		a    queue.Elem
		want bool
	}{
		{"the same", elem(0, 3, itv.Itv{Lo: -2, Hi: 5}, nothing, itv.All()), true},
		{"fewer messages", elem(1, 2, itv.Itv{Lo: -2, Hi: 5}, nothing, itv.All()), true},
		{"more messages", elem(0, 4, itv.Itv{Lo: -2, Hi: 5}, nothing, itv.All()), false},
		{"fewer than may be", elem(-1, 3, itv.Itv{Lo: -2, Hi: 5}, nothing, itv.All()), false},
		{"no count", elem(1, 0, itv.Itv{Lo: -2, Hi: 5}, nothing, itv.All()), true},
		{"fewer numbers", elem(0, 3, itv.Itv{Lo: -1, Hi: 4}, nothing, one(least)), true},
		{"a number below", elem(0, 3, itv.Itv{Lo: -3, Hi: 4}, nothing, nothing), false},
		{"a number above", elem(0, 3, itv.Itv{Lo: -1, Hi: 6}, nothing, nothing), false},
		{"no numbers", elem(0, 3, nothing, nothing, nothing), true},
		{"no numbers in another form", elem(0, 3, itv.Itv{Lo: 99, Hi: 98}, itv.Itv{Lo: 4, Hi: 2}, nothing), true},
		{"a message of a tag more", elem(0, 3, nothing, one(0), nothing), false},
		{"fewer tags", elem(0, 3, itv.Itv{Lo: -2, Hi: 5}, nothing), false},
		{"more tags", elem(0, 3, itv.Itv{Lo: -2, Hi: 5}, nothing, itv.All(), nothing), false},
		{"no tags", elem(0, 3), false},
	} {
		if queue.Within(x.a, big) != x.want {
			t.Error(x.what)
		}
	}
	if !queue.Within(queue.Elem{}, elem(0, 0)) || !queue.Within(elem(0, 0, []itv.Itv{}...), queue.Elem{}) {
		t.Error("without tags")
	}
}

// What is within has nothing that the other one hasn't.
func TestP11_1_WithinIsOfAllMessages(t *testing.T) {
	random := rand.New(rand.NewSource(112))
	told := map[bool]int{}
	for range 5000 {
		c := sample.Chan(random.Intn)
		a, b := sample.Elem(c, random.Intn), sample.Elem(c, random.Intn)
		if random.Intn(2) == 0 {
			b = queue.Join(a, b)
		}
		within := queue.Within(a, b)
		told[within]++
		for range 4 {
			list := sample.Messages(a, c.Size, random.Intn)
			if within && !inside(b, list) {
				t.Fatal(a, b, list)
			}
		}
		all := a.Len.Lo >= b.Len.Lo && a.Len.Hi <= b.Len.Hi
		for tag, i := range a.Vals {
			all = all && (i.Lo > i.Hi || i.Lo >= b.Vals[tag].Lo && i.Hi <= b.Vals[tag].Hi)
		}
		if within != all {
			t.Fatal(a, b)
		}
	}
	if told[true] < 1000 || told[false] < 1000 {
		t.Error("too few of one kind:", told)
	}
}

func TestP11_1_JoinAndWiden(t *testing.T) {
	a := elem(0, 2, itv.Itv{Lo: 3, Hi: 5}, nothing, one(least), itv.Itv{Lo: 3, Hi: 5})
	b := elem(0, 3, itv.Itv{Lo: 2, Hi: 5}, one(8), one(most), nothing)
	want(t, "Join", queue.Join(a, b), elem(0, 3, itv.Itv{Lo: 2, Hi: 5}, one(8), itv.All(), itv.Itv{Lo: 3, Hi: 5}))
	want(t, "Widen", queue.Widen(a, b), elem(0, most, itv.Itv{Lo: least, Hi: 5}, one(8), itv.All(), itv.Itv{Lo: 3, Hi: 5}))
	want(t, "Join", queue.Join(b, a), elem(0, 3, itv.Itv{Lo: 2, Hi: 5}, one(8), itv.All(), itv.Itv{Lo: 3, Hi: 5}))
	want(t, "Widen", queue.Widen(b, a), elem(0, 3, itv.Itv{Lo: 2, Hi: 5}, one(8), itv.Itv{Lo: least, Hi: most}, itv.Itv{Lo: 3, Hi: 5}))
	want(t, "Widen", queue.Widen(elem(2, 4), elem(1, 4)), elem(least, 4))
	want(t, "Join", queue.Join(elem(2, 4), elem(1, 0)), elem(2, 4))
	want(t, "Join", queue.Join(queue.Elem{}, elem(0, 16)), elem(0, 16))
	random := rand.New(rand.NewSource(113))
	for range 3000 {
		c := sample.Chan(random.Intn)
		a, b := sample.Elem(c, random.Intn), sample.Elem(c, random.Intn)
		join, widen := elem(0, itv.Join(a.Len, b.Len).Hi), elem(0, itv.Widen(a.Len, b.Len).Hi)
		for tag := range c.Tags {
			join.Vals = append(join.Vals, itv.Join(a.Vals[tag], b.Vals[tag]))
			widen.Vals = append(widen.Vals, itv.Widen(a.Vals[tag], b.Vals[tag]))
		}
		want(t, "Join", queue.Join(a, b), join, a, b)
		want(t, "Widen", queue.Widen(a, b), widen, a, b)
		for _, e := range []queue.Elem{a, b} {
			if list := sample.Messages(e, c.Size, random.Intn); !queue.Has(queue.Join(a, b), list) || !queue.Has(queue.Widen(a, b), list) {
				t.Fatal(a, b, list)
			}
		}
	}
}

// With another count of tags the first one is told as it is.
func TestP11_1_OtherCounts(t *testing.T) {
	for m := range 6 {
		for n := range 6 {
			a := elem(1, 2, slices.Repeat([]itv.Itv{{Lo: 4, Hi: 3}}, m)...)
			b := elem(0, 9, slices.Repeat([]itv.Itv{one(5)}, n)...)
			if queue.Within(a, b) != (m == n) || queue.Within(b, a) {
				t.Error("Within", m, n)
			}
			if m != n {
				want(t, "Join", queue.Join(a, b), a, m, n)
				want(t, "Widen", queue.Widen(a, b), a, m, n)
			} else {
				want(t, "Join", queue.Join(a, b), b, m)
			}
		}
	}
}

func TestP11_1_Tags(t *testing.T) {
	for set := range 1 << 6 {
		for many := range 7 {
			e, list := elem(0, 0), []int(nil)
			for tag := range many {
				if set>>tag&1 == 1 {
					e.Vals, list = append(e.Vals, itv.Itv{Lo: tag - 3, Hi: tag - 3 + set}), append(list, tag)
				} else {
					e.Vals = append(e.Vals, empties()[tag%5])
				}
			}
			if got := queue.Tags(e); !slices.Equal(got, list) {
				t.Fatal(e, got)
			}
		}
	}
	if got := queue.Tags(elem(0, 16, one(least), nothing, one(most), itv.All())); !slices.Equal(got, []int{0, 2, 3}) {
		t.Error(got)
	}
	if len(queue.Tags(queue.Elem{})) > 0 {
		t.Error("of nothing")
	}
}
