package ast

import (
	"strconv"
	"strings"

	"jetsam/api"
)

// Words tells a system as words, or why it has none.
func Words(s System) ([]string, api.Errno) {
	if !systemRight(s) {
		return nil, api.ErrForm
	}
	if systemDeep(s) {
		return nil, api.ErrDeep
	}
	var w writer
	w.system(s)
	if w.tooMany() {
		return nil, api.ErrLong
	}
	return w.words, api.OK
}

// Text tells a system as a text: its words, each with a blank behind it.
func Text(s System) (string, api.Errno) {
	words, err := Words(s)
	if err != api.OK {
		return "", err
	}
	var text strings.Builder
	for _, word := range words {
		text.WriteString(word)
		text.WriteByte(' ')
	}
	return text.String(), api.OK
}

// writer gathers words, and of too many only the first one that is.
type writer struct {
	words []string
}

func (w *writer) tooMany() bool {
	return len(w.words) > api.MaxWords
}

func (w *writer) put(words ...string) {
	for _, word := range words {
		if w.tooMany() {
			return
		}
		// A clone, for the answer must not hold on to the system's names.
		w.words = append(w.words, strings.Clone(word))
	}
}

func (w *writer) system(s System) {
	for _, c := range s.Chans {
		w.channel(c)
	}
	for _, r := range s.Rules {
		w.rule(r)
	}
	for _, p := range s.Procs {
		w.process(p)
	}
}

func (w *writer) channel(c Chan) {
	w.put("chan", c.Name, chanWord(c.Kind), strconv.Itoa(c.Size))
	w.put("from", c.From, "to", c.To, "{")
	for i, tag := range c.Tags {
		if i > 0 {
			w.put(",")
		}
		w.put(tag)
	}
	w.put("}", ";")
}

func (w *writer) rule(r Rule) {
	w.put("rule", r.Chan, "{")
	for _, m := range r.Moves {
		w.put(strconv.Itoa(m.From), m.Tag, strconv.Itoa(m.To), ";")
	}
	w.put("}")
}

func (w *writer) process(p Proc) {
	w.put("proc", p.Name, "{")
	for _, name := range p.Vars {
		w.put("var", name, ";")
	}
	w.statements(p.Body)
	w.put("}")
}

func (w *writer) statements(list []Stmt) {
	for _, st := range list {
		w.statement(st)
	}
}

func (w *writer) statement(st Stmt) {
	switch st.Kind {
	case Assign:
		w.put(st.Name, "=")
		w.expr(st.E)
		w.put(";")
	case If:
		w.put("if")
		w.cond(st.C)
		w.block(st.Body)
		if len(st.Else) > 0 {
			w.put("else")
			w.block(st.Else)
		}
	case While:
		w.put("while")
		w.cond(st.C)
		w.block(st.Body)
	case Send:
		w.put("send", st.Name, ".", st.Tag, "(")
		w.expr(st.E)
		w.put(")", ";")
	case Recv:
		w.put("recv", st.Name, "{")
		for _, arm := range st.Arms {
			w.put(arm.Tag, "(", arm.Var, ")")
			w.block(arm.Body)
		}
		w.put("}")
	case Assert:
		w.put("assert")
		w.cond(st.C)
		w.put(";")
	case Input:
		w.put("input", st.Name, ";")
	}
}

func (w *writer) block(body []Stmt) {
	w.put("{")
	w.statements(body)
	w.put("}")
}

func (w *writer) cond(c Cond) {
	w.put("(")
	w.expr(c.L)
	w.put(compareSign(c.Op))
	w.expr(c.R)
	w.put(")")
}

func (w *writer) expr(e Expr) {
	switch {
	case e.Kind == Num:
		w.put(strconv.Itoa(e.Num))
	case e.Kind == Var:
		w.put(e.Name)
	case e.Kind == Neg:
		w.put("-")
		w.kid(e, 0)
	case isBinary(e.Kind):
		w.kid(e, 0)
		w.put(binarySign(e.Kind))
		w.kid(e, 1)
	}
}

func (w *writer) kid(e Expr, i int) {
	if !bracketed(e, i) {
		w.expr(e.Kids[i])
		return
	}
	w.put("(")
	w.expr(e.Kids[i])
	w.put(")")
}

// bracketed tells whether that kid of an expression stands in ( and ):
// without them its words would be those of another tree.
func bracketed(e Expr, i int) bool {
	kid := e.Kids[i].Kind
	switch e.Kind {
	case Neg:
		return isBinary(kid)
	case Add, Sub:
		return i == 1 && isSum(kid)
	case Mul, Div, Mod:
		return isSum(kid) || i == 1 && isBinary(kid)
	}
	return false
}

func isSum(kind int) bool {
	return kind == Add || kind == Sub
}

func isBinary(kind int) bool {
	return kind >= Add && kind <= Mod
}

func chanWord(kind int) string {
	switch kind {
	case api.Block:
		return "block"
	case api.Drop:
		return "drop"
	}
	return "lossy"
}

func binarySign(kind int) string {
	switch kind {
	case Add:
		return "+"
	case Sub:
		return "-"
	case Mul:
		return "*"
	case Div:
		return "/"
	}
	return "%"
}

func compareSign(op int) string {
	switch op {
	case Eq:
		return "=="
	case Ne:
		return "!="
	case Lt:
		return "<"
	case Le:
		return "<="
	case Gt:
		return ">"
	}
	return ">="
}
