package flow_test

import (
	"reflect"
	"testing"

	"jetsam/api"
	"jetsam/check"
	"jetsam/flow"
)

func TestP5_3_NothingIsChanged(t *testing.T) {
	p := program(t, rightText)
	body := make([]check.Stmt, len(p.Procs[0].Body), len(p.Procs[0].Body)+2)
	copy(body, p.Procs[0].Body)
	p.Procs[0].Body = body
	s, err := flow.Build(p)
	if err != api.OK || !reflect.DeepEqual(p, program(t, rightText)) {
		t.Error("Build changed the system", err)
	}
	if !reflect.DeepEqual(body[len(body):cap(body)], make([]check.Stmt, 2)) {
		t.Error("Build changed the spare room")
	}
	want := printed(s)
	for i, g := range s.Graphs {
		s.Graphs[i].Edges = append(g.Edges, flow.Edge{Kind: 99})[:len(g.Edges)]
	}
	if !flow.Right(s) || printed(s) != want {
		t.Error("Right changed the system")
	}
	flow.Out(s.Graphs[0], 5)
	if printed(s) != want {
		t.Error("Out changed the graph")
	}
	for _, g := range s.Graphs {
		if g.Edges[:len(g.Edges)+1][len(g.Edges)].Kind != 99 {
			t.Error("the spare room was changed")
		}
	}
}

// list is where a list's room begins and ends.
type list struct{ from, to uintptr }

// lists tells of all lists with room, each as often as it stands there.
func lists(v reflect.Value, to []list) []list {
	switch v.Kind() {
	case reflect.Struct:
		for i := range v.NumField() {
			to = lists(v.Field(i), to)
		}
	case reflect.Slice:
		if v.Cap() > 0 {
			to = append(to, list{v.Pointer(), v.Pointer() + uintptr(v.Cap())*v.Type().Elem().Size()})
		}
		for i := range v.Len() {
			to = lists(v.Index(i), to)
		}
	}
	return to
}

func TestP5_3_AnswersAreNewMemory(t *testing.T) {
	p := program(t, rightText)
	s, _ := flow.Build(p)
	again, _ := flow.Build(p)
	outs := [][]int{flow.Out(s.Graphs[0], 5), flow.Out(s.Graphs[0], 5)}
	all := lists(reflect.ValueOf(p), nil)
	for _, v := range []any{s, again, outs[0], outs[1]} {
		all = lists(reflect.ValueOf(v), all)
	}
	for i, a := range all {
		for _, b := range all[:i] {
			if a.from < b.to && b.from < a.to {
				t.Error("two lists share memory")
			}
		}
	}
	outs[0][0] = 99
	if outs[1][0] == 99 || printed(s) != printed(again) {
		t.Error("answers hang together")
	}
}
