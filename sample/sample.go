// Package sample makes systems of all kinds, for the tests of the other packages.
package sample

import (
	"jetsam/api"
	"jetsam/ast"
	"jetsam/check"
)

// maxDeep is how deep blocks and expressions are nested at most.
const maxDeep = 3

// maker makes the parts of a system by what pick chooses; proc and vars are
// those of the process that is made; calm: of one that runs on for long.
type maker struct {
	pick  func(n int) int
	calm  bool
	chans []check.Chan
	proc  int
	vars  int
}

// Prog makes a system that is check.Right, and nested but a little. Each choice
// is made by pick, which tells a number from 0 to n-1.
func Prog(pick func(n int) int) check.Prog {
	m := maker{pick: pick}
	return m.prog()
}

// Calm makes a system likewise, but one in which there seldom are errors, so
// that many of its runs are long.
func Calm(pick func(n int) int) check.Prog {
	m := maker{pick: pick, calm: true}
	return m.prog()
}

func (m *maker) prog() check.Prog {
	procs := 1 + m.pick(api.MaxProcs)
	if procs > 1 {
		for range m.pick(api.MaxChans + 1) {
			m.chans = append(m.chans, m.channel(procs))
		}
	}
	p := check.Prog{Chans: m.chans}
	for at := range procs {
		m.proc, m.vars = at, m.pick(api.MaxVars+1)
		p.Procs = append(p.Procs, check.Proc{Vars: m.vars, Body: m.body(maxDeep)})
	}
	return p
}

// isCalm: seldom not, of a calm system.
func (m *maker) isCalm() bool {
	return m.calm && m.pick(10) > 0
}

func (m *maker) channel(procs int) check.Chan {
	c := check.Chan{Kind: m.pick(3), Size: 1 + m.pick(api.MaxSize), Tags: 1 + m.pick(api.MaxTags)}
	c.From = m.pick(procs)
	c.To = (c.From + 1 + m.pick(procs-1)) % procs
	if m.pick(2) == 0 {
		c.Rule = m.rule(c.Tags)
	}
	return c
}

// rule makes one whose last state is named, by a move to it at least.
func (m *maker) rule(tags int) [][]int {
	states := 1 + m.pick(api.MaxStates)
	var rows [][]int
	for range states {
		var row []int
		for range tags {
			to := m.pick(states+1) - 1
			if to < 0 && m.isCalm() {
				to = 0
			}
			row = append(row, to)
		}
		rows = append(rows, row)
	}
	if states > 1 {
		rows[m.pick(states)][m.pick(tags)] = states - 1
	}
	return rows
}

func (m *maker) body(deep int) []check.Stmt {
	var list []check.Stmt
	if deep > 0 {
		for range m.pick(4) {
			list = append(list, m.stmt(deep))
		}
	}
	return list
}

// stmt makes an assertion where one of the kind that was chosen can't be.
func (m *maker) stmt(deep int) check.Stmt {
	kind := ast.Assign + m.pick(ast.Input)
	switch {
	case kind == ast.If:
		return check.Stmt{Kind: kind, C: m.cond(), Body: m.body(deep - 1), Else: m.body(deep - 1)}
	case kind == ast.While:
		return check.Stmt{Kind: kind, C: m.cond(), Body: m.body(deep - 1)}
	case kind == ast.Assign && m.vars > 0:
		return check.Stmt{Kind: kind, Var: m.pick(m.vars), E: m.expr(maxDeep)}
	case kind == ast.Input && m.vars > 0:
		return check.Stmt{Kind: kind, Var: m.pick(m.vars)}
	case kind == ast.Send || kind == ast.Recv && m.vars > 0:
		if at := m.own(kind); at >= 0 {
			return m.message(kind, at, deep)
		}
	}
	if m.vars > 0 && m.isCalm() {
		return check.Stmt{Kind: ast.Assign, Var: m.pick(m.vars), E: m.expr(maxDeep)}
	}
	return check.Stmt{Kind: ast.Assert, C: m.cond()}
}

// own tells a channel on which the process may send, or receive; -1, if there is none.
func (m *maker) own(kind int) int {
	var places []int
	for at, c := range m.chans {
		if kind == ast.Send && c.From == m.proc || kind == ast.Recv && c.To == m.proc {
			places = append(places, at)
		}
	}
	if len(places) == 0 {
		return -1
	}
	return places[m.pick(len(places))]
}

func (m *maker) message(kind, at, deep int) check.Stmt {
	tags := m.chans[at].Tags
	if kind == ast.Send {
		return check.Stmt{Kind: kind, Chan: at, Tag: m.pick(tags), E: m.expr(maxDeep)}
	}
	st := check.Stmt{Kind: kind, Chan: at}
	first, arms := m.pick(tags), 1+m.pick(tags)
	if m.isCalm() {
		arms = tags
	}
	for i := range arms {
		arm := check.Arm{Tag: (first + i) % tags, Var: m.pick(m.vars), Body: m.body(deep - 1)}
		st.Arms = append(st.Arms, arm)
	}
	return st
}

func (m *maker) cond() check.Cond {
	if m.vars > 0 && m.isCalm() {
		return check.Cond{Op: ast.Eq + m.pick(ast.Ge), L: m.variable(), R: m.expr(1)}
	}
	return check.Cond{Op: ast.Eq + m.pick(ast.Ge), L: m.expr(maxDeep - 1), R: m.expr(maxDeep - 1)}
}

func (m *maker) expr(deep int) check.Expr {
	kind := ast.Num + m.pick(ast.Mod)
	switch {
	case m.vars > 0 && deep > 0 && m.isCalm():
		return m.near()
	case kind == ast.Var && m.vars > 0:
		return m.variable()
	case kind <= ast.Var || deep == 0:
		return m.num(m.number())
	case kind == ast.Neg:
		return check.Expr{Kind: kind, Kids: []check.Expr{m.expr(deep - 1)}}
	}
	return check.Expr{Kind: kind, Kids: []check.Expr{m.expr(deep - 1), m.expr(deep - 1)}}
}

// near makes a number, a variable, or a little more or less than that.
func (m *maker) near() check.Expr {
	switch m.pick(4) {
	case 0:
		return m.num(m.pick(20))
	case 1:
		return m.variable()
	}
	return check.Expr{Kind: ast.Add + m.pick(2), Kids: []check.Expr{m.variable(), m.num(m.pick(4))}}
}

func (m *maker) variable() check.Expr {
	return check.Expr{Kind: ast.Var, Var: m.pick(m.vars)}
}

func (m *maker) num(n int) check.Expr {
	return check.Expr{Kind: ast.Num, Num: n}
}

func (m *maker) number() int {
	if m.pick(8) == 0 {
		return api.MaxInt - m.pick(3)
	}
	return m.pick(20)
}
