package conf_test

import (
	"reflect"
	"testing"

	"jetsam/api"
	"jetsam/conf"
	"jetsam/sample"
)

// roomy has spare room in all of its lists, with something in it.
func roomy() conf.Conf {
	c := base()
	c.At = append(c.At, 99)[:3]
	c.States = append(c.States, 99)[:3]
	for i := range c.Vars {
		c.Vars[i] = append(c.Vars[i], 99)[:len(c.Vars[i])]
	}
	for i := range c.Queues {
		c.Queues[i] = append(c.Queues[i], conf.Msg{Tag: 99})[:len(c.Queues[i])]
	}
	c.Vars = append(c.Vars, []int{99})[:3]
	c.Queues = append(c.Queues, messages(1, 99))[:3]
	return c
}

// unfolded has all lists as long as their room.
func unfolded(c conf.Conf) conf.Conf {
	out := conf.Conf{At: c.At[:4], States: c.States[:4], Vars: c.Vars[3:4:4], Queues: c.Queues[3:4:4]}
	for i := range 3 {
		out.Vars = append(out.Vars, c.Vars[i][:len(c.Vars[i])+1])
		out.Queues = append(out.Queues, c.Queues[i][:len(c.Queues[i])+1])
	}
	return out
}

func TestP6_3_NothingIsChanged(t *testing.T) {
	s, c := system(t, baseText), roomy()
	k := conf.Of(c)
	conf.Right(s, c)
	conf.Copy(c)
	conf.Start(s)
	conf.Back(s, k)
	if !reflect.DeepEqual(s, system(t, baseText)) {
		t.Error("the system is another one")
	}
	if !same(c, base()) || !same(unfolded(c), unfolded(roomy())) {
		t.Error("the configuration is another one", c)
	}
	if k != conf.Of(base()) {
		t.Error("the key is another one")
	}
}

func TestP6_3_AnswersAreNewMemory(t *testing.T) {
	for _, text := range []string{baseText, greatText, bareText} {
		s := system(t, text)
		one, _ := conf.Start(s)
		other, _ := conf.Start(s)
		k := conf.Of(one)
		back, _ := conf.Back(s, k)
		again, _ := conf.Back(s, k)
		if !sample.Apart(one, other, back, again, conf.Copy(one), conf.Copy(one)) {
			t.Error("shared memory:", text)
		}
		if start, _ := conf.Start(s); conf.Of(start) != k {
			t.Error("another start:", text)
		}
	}
	for _, c := range []conf.Conf{roomy(), great()} {
		if !sample.Apart(c, conf.Copy(c), conf.Copy(c)) {
			t.Error("a copy shares memory")
		}
	}
}

// A key isn't changed by what comes to that which was told of it.
func TestP6_3_KeysAreNotShared(t *testing.T) {
	s, k := system(t, greatText), conf.Of(great())
	one, _ := conf.Back(s, k)
	other, _ := conf.Back(s, k)
	if !sample.Apart(one, other) || k != conf.Of(great()) {
		t.Error("shared memory")
	}
	if c, err := conf.Back(s, k); err != api.OK || !same(c, great()) {
		t.Error(c, err)
	}
}

// A key is on its own: what comes to the configuration behind doesn't matter.
func TestP6_3_KeysKeepNothing(t *testing.T) {
	c := base()
	k := conf.Of(c)
	for _, n := range numbers(c) {
		*n = 99
	}
	if k != conf.Of(base()) {
		t.Error(k)
	}
}

func TestP1_WhateverIsAsked(t *testing.T) {
	s := system(t, greatText)
	for _, c := range []conf.Conf{
		{At: make([]int, 100), Vars: make([][]int, 100), Queues: make([][]conf.Msg, 100), States: make([]int, 100)},
		{At: make([]int, 4), Vars: [][]int{make([]int, 100), nil, nil, nil}},
		{Queues: [][]conf.Msg{messages(100, 1<<40), nil, nil, nil}, States: make([]int, 4)},
		{Vars: make([][]int, 4)},
	} {
		if conf.Right(s, c) || !same(conf.Copy(c), c) {
			t.Error(c)
		}
		conf.Back(s, conf.Of(c))
	}
}
