package check

import (
	"slices"

	"jetsam/api"
	"jetsam/ast"
)

// binder puts places for the names of one process, in the order of its words.
// The first fault is kept; what is told behind it doesn't matter.
type binder struct {
	chans []ast.Chan
	proc  string
	vars  []string
	err   api.Errno
}

func bindProcs(s ast.System) ([]Proc, api.Errno) {
	var procs []Proc
	for _, p := range s.Procs {
		if len(p.Vars) > api.MaxVars {
			return nil, api.ErrCount
		}
		if anyTwice(p.Vars) {
			return nil, api.ErrTwice
		}
		b := binder{chans: s.Chans, proc: p.Name, vars: p.Vars}
		body := b.body(p.Body)
		if b.err != api.OK {
			return nil, b.err
		}
		procs = append(procs, Proc{Vars: len(p.Vars), Body: body})
	}
	return procs, api.OK
}

func (b *binder) fail(err api.Errno) {
	if b.err == api.OK {
		b.err = err
	}
}

// place tells where a name is among those that may stand there.
func (b *binder) place(names []string, name string) int {
	at := slices.Index(names, name)
	if at < 0 {
		b.fail(api.ErrName)
	}
	return at
}

func sender(c ast.Chan) string { return c.From }

func receiver(c ast.Chan) string { return c.To }

// channel tells the place of a channel that has the process at that end, and its tags.
func (b *binder) channel(name string, end func(ast.Chan) string) (int, []string) {
	at := chanAt(b.chans, name)
	if at < 0 {
		b.fail(api.ErrName)
		return at, nil
	}
	if end(b.chans[at]) != b.proc {
		b.fail(api.ErrEnd)
	}
	return at, b.chans[at].Tags
}

func (b *binder) body(list []ast.Stmt) []Stmt {
	var body []Stmt
	for _, st := range list {
		if b.err != api.OK {
			return nil
		}
		body = append(body, b.stmt(st))
	}
	return body
}

func (b *binder) stmt(st ast.Stmt) Stmt {
	switch st.Kind {
	case ast.Assign:
		return Stmt{Kind: st.Kind, Var: b.place(b.vars, st.Name), E: b.expr(st.E)}
	case ast.If:
		return Stmt{Kind: st.Kind, C: b.cond(st.C), Body: b.body(st.Body), Else: b.body(st.Else)}
	case ast.While:
		return Stmt{Kind: st.Kind, C: b.cond(st.C), Body: b.body(st.Body)}
	case ast.Send:
		at, tags := b.channel(st.Name, sender)
		return Stmt{Kind: st.Kind, Chan: at, Tag: b.place(tags, st.Tag), E: b.expr(st.E)}
	case ast.Recv:
		at, tags := b.channel(st.Name, receiver)
		return Stmt{Kind: st.Kind, Chan: at, Arms: b.arms(tags, st.Arms)}
	case ast.Assert:
		return Stmt{Kind: st.Kind, C: b.cond(st.C)}
	}
	return Stmt{Kind: st.Kind, Var: b.place(b.vars, st.Name)}
}

func (b *binder) arms(tags []string, list []ast.Arm) []Arm {
	var arms []Arm
	for _, arm := range list {
		if b.err != api.OK {
			return nil
		}
		tag := b.place(tags, arm.Tag)
		if tagUsed(arms, tag) {
			b.fail(api.ErrTwice)
		}
		arms = append(arms, Arm{Tag: tag, Var: b.place(b.vars, arm.Var), Body: b.body(arm.Body)})
	}
	return arms
}

func tagUsed(arms []Arm, tag int) bool {
	return slices.ContainsFunc(arms, func(arm Arm) bool { return arm.Tag == tag })
}

func (b *binder) cond(c ast.Cond) Cond {
	return Cond{Op: c.Op, L: b.expr(c.L), R: b.expr(c.R)}
}

func (b *binder) expr(e ast.Expr) Expr {
	switch e.Kind {
	case ast.Num:
		return Expr{Kind: e.Kind, Num: e.Num}
	case ast.Var:
		return Expr{Kind: e.Kind, Var: b.place(b.vars, e.Name)}
	}
	out := Expr{Kind: e.Kind}
	for _, kid := range e.Kids {
		out.Kids = append(out.Kids, b.expr(kid))
	}
	return out
}
