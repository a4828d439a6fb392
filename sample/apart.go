package sample

import "jetsam/conf"

// Apart tells whether no two lists of these configurations share memory, their
// spare room looked at, too. All of it is written over.
func Apart(confs ...conf.Conf) bool {
	var ints [][]int
	var msgs [][]conf.Msg
	var vars [][][]int
	var queues [][][]conf.Msg
	for _, c := range confs {
		ints = append(append(append(ints, c.At, c.States), c.Vars...), c.Vars[len(c.Vars):cap(c.Vars)]...)
		msgs = append(append(msgs, c.Queues...), c.Queues[len(c.Queues):cap(c.Queues)]...)
		vars, queues = append(vars, c.Vars), append(queues, c.Queues)
	}
	return placesApart(ints, func(n int) int { return n }, func(n int) int { return n }) &&
		placesApart(msgs, func(n int) conf.Msg { return conf.Msg{Val: n} }, func(m conf.Msg) int { return m.Val }) &&
		placesApart(vars, func(n int) []int { return make([]int, n) }, func(list []int) int { return len(list) }) &&
		placesApart(queues, func(n int) []conf.Msg { return make([]conf.Msg, n) }, func(list []conf.Msg) int { return len(list) })
}

// placesApart writes another number into each place of each list, and tells
// whether all are still there at the end: a place that two lists have would
// have lost its first one.
func placesApart[T any](lists [][]T, put func(n int) T, get func(x T) int) bool {
	n := 0
	for _, list := range lists {
		for i := range cap(list) {
			n++
			list[:cap(list)][i] = put(n)
		}
	}
	n = 0
	for _, list := range lists {
		for _, x := range list[:cap(list)] {
			n++
			if get(x) != n {
				return false
			}
		}
	}
	return true
}
