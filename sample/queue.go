package sample

import (
	"jetsam/api"
	"jetsam/check"
	"jetsam/conf"
	"jetsam/itv"
	"jetsam/queue"
)

// Chan makes a channel of a system that is check.Right, by what pick chooses;
// at times with a rule.
func Chan(pick func(n int) int) check.Chan {
	m := maker{pick: pick}
	return m.channel(2 + pick(api.MaxProcs-1))
}

// Itv makes one of numbers that a variable may be, at times empty.
func Itv(pick func(n int) int) itv.Itv {
	if pick(4) == 0 {
		return itv.None()
	}
	lo, hi := Number(pick), Number(pick)
	return itv.Itv{Lo: min(lo, hi), Hi: max(lo, hi)}
}

// Elem makes what may be in a channel: often nothing, and often as much as
// there is room for.
func Elem(c check.Chan, pick func(n int) int) queue.Elem {
	var e queue.Elem
	e.Len.Hi = []int{0, c.Size, pick(c.Size + 1)}[pick(3)]
	for range c.Tags {
		e.Vals = append(e.Vals, Itv(pick))
	}
	return e
}

// Messages makes some that an Elem has, no more than so many, by what pick
// chooses: its numbers are often an end of an Itv.
func Messages(e queue.Elem, most int, pick func(n int) int) []conf.Msg {
	var tags []int
	for tag, i := range e.Vals {
		if i.Lo <= i.Hi {
			tags = append(tags, tag)
		}
	}
	most = min(most, e.Len.Hi)
	if len(tags) == 0 || most < 1 {
		return nil
	}
	var list []conf.Msg
	for range []int{most, pick(most + 1)}[pick(2)] {
		tag := tags[pick(len(tags))]
		list = append(list, conf.Msg{Tag: tag, Val: oneOf(e.Vals[tag], pick)})
	}
	return list
}

// oneOf: an end, or any number of an Itv that isn't empty.
func oneOf(i itv.Itv, pick func(n int) int) int {
	return []int{i.Lo, i.Hi, i.Lo + pick(i.Hi-i.Lo+1)}[pick(3)]
}
