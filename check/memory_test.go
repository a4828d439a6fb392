package check_test

import (
	"fmt"
	"reflect"
	"testing"

	"jetsam/api"
	"jetsam/ast"
	"jetsam/check"
)

func TestP4_3_NothingIsChanged(t *testing.T) {
	for _, text := range []string{wholeText, baseText, rightText, ahead + "x = z ;" + behind, ahead + "send d . a ( 1 ) ;" + behind} {
		s := system(t, text)
		spare := make([]ast.Stmt, len(s.Procs[0].Body), len(s.Procs[0].Body)+3)
		copy(spare, s.Procs[0].Body)
		s.Procs[0].Body = spare
		p, err := check.Check(s)
		if !reflect.DeepEqual(s, system(t, text)) {
			t.Error("Check changed", text)
		}
		if !reflect.DeepEqual(spare[len(spare):cap(spare)], make([]ast.Stmt, 3)) {
			t.Error("Check changed the spare room of", text)
		}
		ahead := fmt.Sprint(p)
		if check.Right(p) != (err == api.OK) || fmt.Sprint(p) != ahead {
			t.Error("Right changed", text)
		}
	}
}

// lists tells where each list with room begins, and how far its room goes.
func lists(v reflect.Value, to map[uintptr]uintptr) {
	switch v.Kind() {
	case reflect.Struct:
		for i := range v.NumField() {
			lists(v.Field(i), to)
		}
	case reflect.Slice:
		if v.Cap() > 0 {
			to[v.Pointer()] = v.Pointer() + uintptr(v.Cap())*v.Type().Elem().Size()
		}
		for i := range v.Len() {
			lists(v.Index(i), to)
		}
	}
}

// count tells how many lists there are that have something.
func count(v reflect.Value) int {
	n := 0
	switch v.Kind() {
	case reflect.Struct:
		for i := range v.NumField() {
			n += count(v.Field(i))
		}
	case reflect.Slice:
		n = min(v.Cap(), 1)
		for i := range v.Len() {
			n += count(v.Index(i))
		}
	}
	return n
}

func TestP4_3_AnswersAreNewMemory(t *testing.T) {
	s := system(t, wholeText)
	p, _ := check.Check(s)
	again, _ := check.Check(s)
	at := map[uintptr]uintptr{}
	for _, answer := range []check.Prog{p, again} {
		lists(reflect.ValueOf(answer), at)
	}
	if len(at) != 2*count(reflect.ValueOf(p)) {
		t.Error("two lists of answers begin at one place")
	}
	for a, end := range at {
		for b := range at {
			if a < b && b < end {
				t.Error("two lists of answers share memory")
			}
		}
	}
}
