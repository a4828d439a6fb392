package queue_test

import (
	"math"
	"slices"
	"testing"

	"jetsam/check"
	"jetsam/conf"
	"jetsam/itv"
	"jetsam/queue"
)

const least, most = -2147483648, 2147483647

var nothing = itv.Itv{Lo: 1, Hi: 0}

// channel: of so much room, and so many tags.
func channel(size, tags int) check.Chan {
	return check.Chan{Size: size, To: 1, Tags: tags}
}

// one is an Itv of a number alone.
func one(n int) itv.Itv { return itv.Itv{Lo: n, Hi: n} }

// elem: from one count of messages to another one, with these numbers by tags.
func elem(lo, hi int, vals ...itv.Itv) queue.Elem {
	return queue.Elem{Len: itv.Itv{Lo: lo, Hi: hi}, Vals: vals}
}

// same: nil and empty lists are one.
func same(a, b queue.Elem) bool {
	return a.Len == b.Len && slices.Equal(a.Vals, b.Vals)
}

func want(t *testing.T, what string, got, want queue.Elem, of ...any) {
	t.Helper()
	if !same(got, want) {
		t.Errorf("%s of %v: %v, want %v", what, of, got, want)
	}
}

// empties are Itvs without a number, in several forms.
func empties() []itv.Itv {
	return []itv.Itv{{Lo: 1, Hi: 0}, {Lo: 5, Hi: 4}, {Lo: 3, Hi: -3}, {Lo: most, Hi: least}, {Lo: math.MaxInt, Hi: math.MinInt}}
}

// beyond are tags that there aren't, of so many.
func beyond(tags int) []int {
	return []int{math.MinInt, least, -2, -1, tags, tags + 1, tags + 64, most, 1 << 32, math.MaxInt - 1, math.MaxInt}
}

// wild are numbers of all kinds, also such as nothing may have.
func wild() []int {
	return []int{math.MinInt, math.MinInt + 1, -1 << 40, least - 1, least, -17, -2, -1, 0, 1, 2, 3, 4, 5, 15, 16, 17, most - 1, most, most + 1, 1 << 40, math.MaxInt - 1, math.MaxInt}
}

// messages: so many, of one tag and number.
func messages(n, tag, val int) []conf.Msg {
	return slices.Repeat([]conf.Msg{{Tag: tag, Val: val}}, n)
}

// inside tells by hand what Has must tell.
func inside(e queue.Elem, list []conf.Msg) bool {
	for _, m := range list {
		if m.Tag < 0 || m.Tag >= len(e.Vals) || m.Val < e.Vals[m.Tag].Lo || m.Val > e.Vals[m.Tag].Hi {
			return false
		}
	}
	return e.Len.Lo <= len(list) && len(list) <= e.Len.Hi
}
