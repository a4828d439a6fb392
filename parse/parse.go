// Package parse is layer 3: systems out of texts: see shared/doc/03-parse.md.
package parse

import (
	"jetsam/api"
	"jetsam/ast"
	"jetsam/lex"
)

// Parse tells the system of a text, or the place where it is none's, and why.
func Parse(text string) (ast.System, int, api.Errno) {
	words, at, err := lex.Lex(text)
	if err != api.OK {
		return ast.System{}, at, err
	}
	r := reader{words: words, end: len(text)}
	s := r.system()
	if r.err != api.OK {
		return ast.System{}, r.at, r.err
	}
	return s, 0, api.OK
}

func (r *reader) system() ast.System {
	var s ast.System
	for r.accept("chan") {
		s.Chans = append(s.Chans, r.channel())
	}
	for r.accept("rule") {
		s.Rules = append(s.Rules, r.rule())
	}
	for r.accept("proc") {
		s.Procs = append(s.Procs, r.process())
	}
	r.finish()
	return s
}

func (r *reader) channel() ast.Chan {
	c := ast.Chan{Name: r.name(), Kind: r.chanKind(), Size: r.number()}
	r.expect("from")
	c.From = r.name()
	r.expect("to")
	c.To = r.name()
	r.expect("{")
	c.Tags = append(c.Tags, r.name())
	for r.accept(",") {
		c.Tags = append(c.Tags, r.name())
	}
	r.expect("}")
	r.expect(";")
	return c
}

func (r *reader) chanKind() int {
	switch {
	case r.accept("block"):
		return api.Block
	case r.accept("drop"):
		return api.Drop
	}
	r.expect("lossy")
	return api.Lossy
}

func (r *reader) rule() ast.Rule {
	rule := ast.Rule{Chan: r.name()}
	r.expect("{")
	for r.peek().Kind == lex.Number {
		rule.Moves = append(rule.Moves, ast.Move{From: r.number(), Tag: r.name(), To: r.number()})
		r.expect(";")
	}
	r.expect("}")
	return rule
}

// process: its own { } is no block of statements.
func (r *reader) process() ast.Proc {
	p := ast.Proc{Name: r.name()}
	r.expect("{")
	for r.accept("var") {
		p.Vars = append(p.Vars, r.name())
		r.expect(";")
	}
	p.Body = r.statements(0)
	r.expect("}")
	return p
}

// block: of statements, in so many other blocks.
func (r *reader) block(blocks int) []ast.Stmt {
	r.nest("{", blocks)
	body := r.statements(blocks + 1)
	r.expect("}")
	return body
}

func (r *reader) statements(blocks int) []ast.Stmt {
	var list []ast.Stmt
	for {
		switch r.peek().Text {
		case "if":
			list = append(list, r.choice(blocks))
		case "while":
			list = append(list, r.loop(blocks))
		case "send":
			list = append(list, r.send())
		case "recv":
			list = append(list, r.recv(blocks))
		case "assert":
			list = append(list, r.assert())
		case "input":
			list = append(list, r.input())
		default:
			if r.peek().Kind != lex.Name {
				return list
			}
			list = append(list, r.assign())
		}
	}
}

func (r *reader) assign() ast.Stmt {
	st := ast.Stmt{Kind: ast.Assign, Name: r.name()}
	r.expect("=")
	st.E = r.sum(0)
	r.expect(";")
	return st
}

func (r *reader) choice(blocks int) ast.Stmt {
	r.expect("if")
	st := ast.Stmt{Kind: ast.If, C: r.cond(), Body: r.block(blocks)}
	if r.accept("else") {
		st.Else = r.block(blocks)
	}
	return st
}

func (r *reader) loop(blocks int) ast.Stmt {
	r.expect("while")
	return ast.Stmt{Kind: ast.While, C: r.cond(), Body: r.block(blocks)}
}

func (r *reader) send() ast.Stmt {
	r.expect("send")
	st := ast.Stmt{Kind: ast.Send, Name: r.name()}
	r.expect(".")
	st.Tag = r.name()
	r.expect("(")
	st.E = r.sum(0)
	r.expect(")")
	r.expect(";")
	return st
}

// recv: its { } around the arms is no block of statements.
func (r *reader) recv(blocks int) ast.Stmt {
	r.expect("recv")
	st := ast.Stmt{Kind: ast.Recv, Name: r.name()}
	r.expect("{")
	st.Arms = append(st.Arms, r.arm(blocks))
	for r.peek().Kind == lex.Name {
		st.Arms = append(st.Arms, r.arm(blocks))
	}
	r.expect("}")
	return st
}

func (r *reader) arm(blocks int) ast.Arm {
	arm := ast.Arm{Tag: r.name()}
	r.expect("(")
	arm.Var = r.name()
	r.expect(")")
	arm.Body = r.block(blocks)
	return arm
}

func (r *reader) assert() ast.Stmt {
	r.expect("assert")
	st := ast.Stmt{Kind: ast.Assert, C: r.cond()}
	r.expect(";")
	return st
}

func (r *reader) input() ast.Stmt {
	r.expect("input")
	st := ast.Stmt{Kind: ast.Input, Name: r.name()}
	r.expect(";")
	return st
}
