package ast

import (
	"reflect"
	"slices"
	"strings"
	"testing"
	"unsafe"

	"jetsam/api"
)

// changes are such that the whole system is another one behind each of them.
func changes() map[string]func(s *System) {
	return map[string]func(s *System){
		"channel":      func(s *System) { s.Chans[1].Name = "o" },
		"kind":         func(s *System) { s.Chans[1].Kind = 2 },
		"size":         func(s *System) { s.Chans[1].Size = 1 },
		"from":         func(s *System) { s.Chans[1].From = "o" },
		"to":           func(s *System) { s.Chans[1].To = "o" },
		"tag":          func(s *System) { s.Chans[2].Tags[2] = "o" },
		"fewer tags":   func(s *System) { s.Chans[2].Tags = s.Chans[2].Tags[:2] },
		"fewer chans":  func(s *System) { s.Chans = s.Chans[:2] },
		"rule":         func(s *System) { s.Rules[1].Chan = "o" },
		"move's from":  func(s *System) { s.Rules[0].Moves[1].From = 5 },
		"move's tag":   func(s *System) { s.Rules[0].Moves[1].Tag = "o" },
		"move's to":    func(s *System) { s.Rules[0].Moves[1].To = 5 },
		"fewer moves":  func(s *System) { s.Rules[0].Moves = s.Rules[0].Moves[:1] },
		"fewer rules":  func(s *System) { s.Rules = s.Rules[:1] },
		"process":      func(s *System) { s.Procs[2].Name = "o" },
		"variable":     func(s *System) { s.Procs[0].Vars[1] = "o" },
		"no variables": func(s *System) { s.Procs[0].Vars = nil },
		"fewer procs":  func(s *System) { s.Procs = s.Procs[:2] },
		"fewer stmts":  func(s *System) { s.Procs[0].Body = s.Procs[0].Body[:3] },
		"other stmt":   func(s *System) { s.Procs[0].Body[3].Kind = While },
		"assign":       func(s *System) { s.Procs[0].Body[0].Name = "o" },
		"value":        func(s *System) { s.Procs[0].Body[0].E.Kids[0].Num = 5 },
		"value's kind": func(s *System) { s.Procs[0].Body[0].E.Kind = Add },
		"value's name": func(s *System) { s.Procs[0].Body[0].E.Kids[1].Kids[0].Name = "o" },
		"fewer kids":   func(s *System) { s.Procs[0].Body[0].E.Kids = s.Procs[0].Body[0].E.Kids[:1] },
		"send":         func(s *System) { s.Procs[0].Body[1].Name = "o" },
		"send's tag":   func(s *System) { s.Procs[0].Body[1].Tag = "o" },
		"sent":         func(s *System) { s.Procs[0].Body[1].E.Kind = Div },
		"if's op":      func(s *System) { s.Procs[0].Body[2].C.Op = Ne },
		"if's left":    func(s *System) { s.Procs[0].Body[2].C.L = num(5) },
		"if's right":   func(s *System) { s.Procs[0].Body[2].C.R = num(5) },
		"body":         func(s *System) { s.Procs[0].Body[2].Body[0].Name = "o" },
		"no body":      func(s *System) { s.Procs[0].Body[2].Body = nil },
		"else":         func(s *System) { s.Procs[0].Body[2].Else[1].Name = "o" },
		"no else":      func(s *System) { s.Procs[0].Body[2].Else = nil },
		"while":        func(s *System) { s.Procs[1].Body[0].C.Op = Le },
		"while's body": func(s *System) { s.Procs[1].Body[1].Body = []Stmt{input("x")} },
		"recv":         func(s *System) { s.Procs[1].Body[0].Body[0].Name = "o" },
		"arm's tag":    func(s *System) { s.Procs[1].Body[0].Body[0].Arms[1].Tag = "o" },
		"arm's var":    func(s *System) { s.Procs[1].Body[0].Body[0].Arms[1].Var = "o" },
		"arm's body":   func(s *System) { s.Procs[1].Body[0].Body[0].Arms[1].Body = []Stmt{input("x")} },
		"fewer arms":   func(s *System) { s.Procs[1].Body[0].Body[0].Arms = s.Procs[1].Body[0].Body[0].Arms[:1] },
		"assert":       func(s *System) { s.Procs[1].Body[0].Body[0].Arms[0].Body[0].C.R = num(5) },
		"input":        func(s *System) { s.Procs[0].Body[2].Else[0].Name = "o" },
	}
}

func TestP2_1_Same(t *testing.T) {
	if !Same(whole(), whole()) || !Same(System{}, System{}) {
		t.Error("one isn't the same as itself")
	}
	if Same(whole(), System{}) || Same(System{}, whole()) {
		t.Error("all is the same as nothing")
	}
	for what, change := range changes() {
		s := whole()
		change(&s)
		if Same(s, whole()) || Same(whole(), s) {
			t.Error(what)
		}
		u := whole()
		change(&u)
		if !Same(s, u) {
			t.Error(what, "twice")
		}
	}
	empty := System{Chans: []Chan{}, Rules: []Rule{}, Procs: []Proc{{Name: "p", Vars: []string{}, Body: []Stmt{}}}}
	if !Same(empty, System{Procs: []Proc{{Name: "p"}}}) {
		t.Error("nil and empty lists are one")
	}
}

// Kinds that can't be have nothing that is looked at.
func TestP2_1_SameOfKindsThatCannotBe(t *testing.T) {
	for _, kind := range []int{0, -1, 8, 99} {
		if !Same(proc(Stmt{Kind: kind, Name: "a"}), proc(Stmt{Kind: kind, Name: "b"})) || Same(proc(Stmt{Kind: kind}), proc(Stmt{Kind: kind + 1000})) {
			t.Error(kind)
		}
	}
	for _, kind := range []int{0, -1, 9, 99} {
		if !Same(value(Expr{Kind: kind, Num: 1}), value(Expr{Kind: kind, Kids: []Expr{num(1)}})) || Same(value(Expr{Kind: kind}), value(Expr{Kind: kind + 1000})) {
			t.Error(kind)
		}
	}
	if Same(value(op(Neg)), value(op(Neg, num(1)))) || Same(value(op(Add, num(1))), value(op(Add, num(1), num(2)))) {
		t.Error("other counts of kids")
	}
}

// All calls end, of what is nested as deep as may be.
func TestP1_DeepTrees(t *testing.T) {
	const deep = 1 << 16
	neg := func(e Expr) Expr { return op(Neg, e) }
	left := func(e Expr) Expr { return op(Add, e, num(1)) }
	right := func(e Expr) Expr { return op(Mul, num(1), e) }
	loop := func(l []Stmt) []Stmt { return []Stmt{while(l...)} }
	other := func(l []Stmt) []Stmt { return []Stmt{{Kind: If, C: cond(Eq, num(1), num(1)), Else: l}} }
	arm := func(l []Stmt) []Stmt {
		return []Stmt{{Kind: Recv, Name: "c", Arms: []Arm{{Tag: "a", Var: "x", Body: l}}}}
	}
	for _, x := range []struct {
		s    System
		want api.Errno
	}{
		{value(repeat(num(1), deep, neg)), api.ErrDeep},
		{value(repeat(num(-1), deep, neg)), api.ErrForm},
		{value(repeat(num(1), deep, right)), api.ErrDeep},
		{value(repeat(num(1), deep, left)), api.ErrLong},
		{proc(repeat([]Stmt(nil), deep, loop)...), api.ErrDeep},
		{proc(repeat([]Stmt{{}}, deep, loop)...), api.ErrForm},
		{proc(repeat([]Stmt{input("x")}, deep, other)...), api.ErrDeep},
		{proc(repeat([]Stmt(nil), deep, arm)...), api.ErrDeep},
	} {
		wantErrno(t, "deep", x.s, x.want)
		if !Same(x.s, x.s) || Same(x.s, System{}) {
			t.Error("same")
		}
	}
}

func TestP2_2_NothingIsChanged(t *testing.T) {
	s, want := whole(), whole()
	spare := make([]Stmt, 4, 9)
	copy(spare, s.Procs[0].Body)
	for i := range spare[4:9] {
		spare[:9][4+i] = input("spare")
	}
	s.Procs[0].Body = spare
	Words(s)
	Text(s)
	Same(s, whole())
	if !reflect.DeepEqual(s, want) {
		t.Error("the system was changed")
	}
	for _, st := range spare[:9][4:] {
		if !reflect.DeepEqual(st, input("spare")) {
			t.Error("its spare room was changed")
		}
	}
}

func TestP2_2_AnswersAreNewMemory(t *testing.T) {
	owned := strings.Clone("variable")
	s := System{Procs: []Proc{{Name: "p", Vars: []string{owned}}}}
	words, _ := Words(s)
	if words[4] != owned || unsafe.StringData(words[4]) == unsafe.StringData(owned) {
		t.Error("a word is the name that was handed in")
	}
	again, _ := Words(s)
	for i := range words {
		words[i] = "?"
	}
	if slices.Contains(again, "?") || s.Procs[0].Vars[0] != "variable" {
		t.Error(again)
	}
}
