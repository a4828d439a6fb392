package parse

import (
	"math/rand"

	"jetsam/api"
	"jetsam/lex"
)

// A symbol of the grammar: a terminal, or a part with its depth; deep: a
// terminal that stands in 24 others already.
type symbol struct {
	text     string
	terminal bool
	deep     bool
	depth    int
}

func word(text string) symbol { return symbol{text: text, terminal: true} }

func open(text string, depth int) symbol {
	return symbol{text: text, terminal: true, deep: depth >= 24}
}

func part(text string, depth int) symbol { return symbol{text: text, depth: depth} }

// row makes symbols of words; "<name>" and "<number>" are kinds of words.
func row(parts ...any) []symbol {
	var list []symbol
	for _, p := range parts {
		if text, ok := p.(string); ok {
			list = append(list, word(text))
		} else {
			list = append(list, p.(symbol))
		}
	}
	return list
}

// choices are the grammar, as the chapters 2 and 3 tell it: what a part may be.
func choices(s symbol) [][]symbol {
	d := s.depth
	again := part(s.text, d)
	switch s.text {
	case "system":
		return [][]symbol{row(part("chans", 0), part("rules", 0), part("procs", 0))}
	case "chans":
		return [][]symbol{nil, row("chan", "<name>", part("kind", 0), "<number>", "from", "<name>", "to", "<name>", "{", "<name>", part("tags", 0), "}", ";", again)}
	case "kind":
		return [][]symbol{row("block"), row("drop"), row("lossy")}
	case "tags":
		return [][]symbol{nil, row(",", "<name>", again)}
	case "rules":
		return [][]symbol{nil, row("rule", "<name>", "{", part("moves", 0), "}", again)}
	case "moves":
		return [][]symbol{nil, row("<number>", "<name>", "<number>", ";", again)}
	case "procs":
		return [][]symbol{nil, row("proc", "<name>", "{", part("vars", 0), part("stmts", 0), "}", again)}
	case "vars":
		return [][]symbol{nil, row("var", "<name>", ";", again)}
	case "stmts":
		return [][]symbol{nil, row(part("stmt", d), again)}
	case "stmt":
		return [][]symbol{
			row("<name>", "=", part("sum", 0), ";"),
			row("if", part("cond", 0), part("block", d)),
			row("if", part("cond", 0), part("block", d), "else", part("block", d)),
			row("while", part("cond", 0), part("block", d)),
			row("send", "<name>", ".", "<name>", "(", part("sum", 0), ")", ";"),
			row("recv", "<name>", "{", part("arm", d), part("arms", d), "}"),
			row("assert", part("cond", 0), ";"),
			row("input", "<name>", ";"),
		}
	case "block":
		return [][]symbol{row(open("{", d), part("stmts", d+1), "}")}
	case "arms":
		return [][]symbol{nil, row(part("arm", d), again)}
	case "arm":
		return [][]symbol{row("<name>", "(", "<name>", ")", part("block", d))}
	case "cond":
		return [][]symbol{row("(", part("sum", 0), part("compare", 0), part("sum", 0), ")")}
	case "compare":
		return [][]symbol{row("=="), row("!="), row("<"), row("<="), row(">"), row(">=")}
	case "sum":
		return [][]symbol{row(part("product", d), part("terms", d))}
	case "terms":
		return [][]symbol{nil, row("+", part("product", d), again), row("-", part("product", d), again)}
	case "product":
		return [][]symbol{row(part("factor", d), part("factors", d))}
	case "factors":
		return [][]symbol{nil, row("*", part("factor", d), again), row("/", part("factor", d), again), row("%", part("factor", d), again)}
	}
	return [][]symbol{row("<number>"), row("<name>"), row(open("-", d), part("factor", d+1)), row(open("(", d), part("sum", d+1), ")")}
}

// A stack is what must still come, the next one first.
type stack struct {
	top  symbol
	rest *stack
}

func push(list []symbol, rest *stack) *stack {
	for i := len(list) - 1; i >= 0; i-- {
		rest = &stack{list[i], rest}
	}
	return rest
}

// spread tells all stacks with a terminal on top, or none at all, that come of
// one by the grammar.
func spread(s *stack, to []*stack) []*stack {
	if s == nil || s.top.terminal {
		return append(to, s)
	}
	for _, list := range choices(s.top) {
		to = spread(push(list, s.rest), to)
	}
	return to
}

func matches(s symbol, w lex.Token) bool {
	switch s.text {
	case "<name>":
		return w.Kind == lex.Name
	case "<number>":
		return w.Kind == lex.Number
	}
	return s.text == w.Text
}

// fault tells by the grammar alone where a text is no system's, and why: all
// ways to read it are gone at once.
func fault(text string) (int, api.Errno) {
	words, at, err := lex.Lex(text)
	if err != api.OK {
		return at, err
	}
	ways := spread(push([]symbol{part("system", 0)}, nil), nil)
	for _, w := range words {
		var next []*stack
		fit, deep := false, false
		for _, s := range ways {
			if s != nil && matches(s.top, w) {
				fit, deep = true, deep || s.top.deep
				next = spread(s.rest, next)
			}
		}
		if !fit {
			return w.At, api.ErrForm
		}
		if deep {
			return w.At, api.ErrDeep
		}
		ways = next
	}
	for _, s := range ways {
		if s == nil {
			return 0, api.OK
		}
	}
	return len(text), api.ErrForm
}

// randomWords makes words of a part by the grammar, some size words or more.
func randomWords(random *rand.Rand, s symbol, size *int) []string {
	if s.terminal {
		*size--
		switch s.text {
		case "<name>":
			return []string{[]string{"a", "b", "x", "yy", "iffy", "abcdefghijkl"}[random.Intn(6)]}
		case "<number>":
			return []string{[]string{"0", "1", "7", "10", "2147483647"}[random.Intn(5)]}
		}
		return []string{s.text}
	}
	list := choices(s)
	choice := list[random.Intn(len(list))]
	if *size < 0 {
		choice = list[0]
	}
	var words []string
	for _, next := range choice {
		words = append(words, randomWords(random, next, size)...)
	}
	return words
}
