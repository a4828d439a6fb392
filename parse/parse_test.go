package parse

import (
	"math/rand"
	"slices"
	"strings"
	"testing"
	"unsafe"

	"jetsam/api"
	"jetsam/ast"
	"jetsam/lex"
)

func num(n int) ast.Expr { return ast.Expr{Kind: ast.Num, Num: n} }

func name(s string) ast.Expr { return ast.Expr{Kind: ast.Var, Name: s} }

func op(kind int, kids ...ast.Expr) ast.Expr { return ast.Expr{Kind: kind, Kids: kids} }

func proc(body ...ast.Stmt) ast.System {
	return ast.System{Procs: []ast.Proc{{Name: "p", Body: body}}}
}

func value(e ast.Expr) ast.System { return proc(ast.Stmt{Kind: ast.Assign, Name: "x", E: e}) }

func wantSystem(t *testing.T, text string, want ast.System) {
	t.Helper()
	s, at, err := Parse(text)
	if err != api.OK || at != 0 || !ast.Same(s, want) {
		t.Errorf("Parse(%.200q) = %v, %d, %d; want %v", text, s, at, err, want)
	}
}

func wantValue(t *testing.T, e string, want ast.Expr) {
	t.Helper()
	wantSystem(t, "proc p { x = "+e+" ; }", value(want))
}

func wantError(t *testing.T, text string, at int, err api.Errno) {
	t.Helper()
	s, a, e := Parse(text)
	nothing := s.Chans == nil && s.Rules == nil && s.Procs == nil
	if !nothing || a != at || e != err {
		t.Errorf("Parse(%.200q) = %v, %d, %d; want nothing, %d, %d", text, s, a, e, at, err)
	}
}

const wholeText = `chan c block 3 from p to q { a , b } ; chan d drop 0 from q to p { a } ;
chan e lossy 2147483647 from q to q{a,a,z9};rule c{0 a 1;2147483647 b 0;}
rule nowhere { }
proc p{var x;var y;x=1-2;send c.a(x);if(x==0){input y;}else{input x;input z;}if(x!=0){}}
proc q{while(x<9){recv c{a(x){assert(1<=x);}b(y){}}}while(x>9){}while(x>=9){}}proc r{}`

func whole() ast.System {
	yes := func(op int) ast.Cond { return ast.Cond{Op: op, L: name("x"), R: num(9)} }
	input := func(s string) ast.Stmt { return ast.Stmt{Kind: ast.Input, Name: s} }
	nought := func(op int) ast.Cond { return ast.Cond{Op: op, L: name("x"), R: num(0)} }
	assert := ast.Stmt{Kind: ast.Assert, C: ast.Cond{Op: ast.Le, L: num(1), R: name("x")}}
	recv := ast.Stmt{Kind: ast.Recv, Name: "c", Arms: []ast.Arm{{Tag: "a", Var: "x", Body: []ast.Stmt{assert}}, {Tag: "b", Var: "y"}}}
	return ast.System{
		Chans: []ast.Chan{
			{Name: "c", Kind: api.Block, Size: 3, From: "p", To: "q", Tags: []string{"a", "b"}},
			{Name: "d", Kind: api.Drop, Size: 0, From: "q", To: "p", Tags: []string{"a"}},
			{Name: "e", Kind: api.Lossy, Size: 2147483647, From: "q", To: "q", Tags: []string{"a", "a", "z9"}},
		},
		Rules: []ast.Rule{
			{Chan: "c", Moves: []ast.Move{{From: 0, Tag: "a", To: 1}, {From: 2147483647, Tag: "b", To: 0}}},
			{Chan: "nowhere"},
		},
		Procs: []ast.Proc{
			{Name: "p", Vars: []string{"x", "y"}, Body: []ast.Stmt{
				{Kind: ast.Assign, Name: "x", E: op(ast.Sub, num(1), num(2))},
				{Kind: ast.Send, Name: "c", Tag: "a", E: name("x")},
				{Kind: ast.If, C: nought(ast.Eq), Body: []ast.Stmt{input("y")}, Else: []ast.Stmt{input("x"), input("z")}},
				{Kind: ast.If, C: nought(ast.Ne)},
			}},
			{Name: "q", Body: []ast.Stmt{
				{Kind: ast.While, C: yes(ast.Lt), Body: []ast.Stmt{recv}},
				{Kind: ast.While, C: yes(ast.Gt)},
				{Kind: ast.While, C: yes(ast.Ge)},
			}},
			{Name: "r"},
		},
	}
}

func TestP3_1_Systems(t *testing.T) {
	wantSystem(t, wholeText, whole())
	wantSystem(t, "", ast.System{})
	wantSystem(t, " \n ", ast.System{})
	wantSystem(t, "proc p{}", proc())
	wantSystem(t, "rule c { }", ast.System{Rules: []ast.Rule{{Chan: "c"}}})
}

func TestP3_1_EmptyElseIsAsIfNotThere(t *testing.T) {
	c := ast.Cond{Op: ast.Eq, L: num(1), R: num(2)}
	without := proc(ast.Stmt{Kind: ast.If, C: c}, ast.Stmt{Kind: ast.Input, Name: "x"})
	wantSystem(t, "proc p { if ( 1 == 2 ) { } else { } input x ; }", without)
	wantSystem(t, "proc p { if ( 1 == 2 ) { } input x ; }", without)
	wantError(t, "proc p { if ( 1 == 2 ) { } else { } else { } }", 36, api.ErrForm)
}

func TestP3_1_Expressions(t *testing.T) {
	a, b, c := name("a"), name("b"), num(3)
	wantValue(t, "1 + 2 * 3", op(ast.Add, num(1), op(ast.Mul, num(2), num(3))))
	wantValue(t, "a - b - 3", op(ast.Sub, op(ast.Sub, a, b), c))
	wantValue(t, "a - b + 3", op(ast.Add, op(ast.Sub, a, b), c))
	wantValue(t, "a - ( b - 3 )", op(ast.Sub, a, op(ast.Sub, b, c)))
	wantValue(t, "a / b % 3 * a", op(ast.Mul, op(ast.Mod, op(ast.Div, a, b), c), a))
	wantValue(t, "a / ( b * 3 )", op(ast.Div, a, op(ast.Mul, b, c)))
	wantValue(t, "a * b + 3 % a", op(ast.Add, op(ast.Mul, a, b), op(ast.Mod, c, a)))
	wantValue(t, "- a * b", op(ast.Mul, op(ast.Neg, a), b))
	wantValue(t, "- ( a * b )", op(ast.Neg, op(ast.Mul, a, b)))
	wantValue(t, "- - a - - b", op(ast.Sub, op(ast.Neg, op(ast.Neg, a)), op(ast.Neg, b)))
	wantValue(t, "a * - b", op(ast.Mul, a, op(ast.Neg, b)))
	wantValue(t, "((a))", a)
	wantValue(t, "((a)+((b*3)))", op(ast.Add, a, op(ast.Mul, b, c)))
	wantValue(t, "(a-b)-(3)", op(ast.Sub, op(ast.Sub, a, b), c))
	wantSystem(t, "proc p { assert ( ( a ) - b < ( 3 ) ) ; }", proc(ast.Stmt{Kind: ast.Assert, C: ast.Cond{Op: ast.Lt, L: op(ast.Sub, a, b), R: c}}))
}

func TestP3_1_FormErrors(t *testing.T) {
	for text, at := range map[string]int{
		"proc p":                              6,
		"proc p \n":                           8,
		"proc":                                4,
		"proc p {":                            8,
		"proc if { }":                         5,
		"proc p { } ;":                        11,
		"proc p { var x , y ; }":              15,
		"proc p { x = 1 ; var y ; }":          17,
		"proc p { x = ; }":                    13,
		"proc p { x = 1 }":                    15,
		"proc p { x == 1 ; }":                 11,
		"proc p { x = 1 + ; }":                17,
		"proc p { x = + 1 ; }":                13,
		"proc p { x = 1 2 ; }":                15,
		"proc p { x = ( 1 ; }":                17,
		"proc p { x = 1 ) ; }":                15,
		"proc p { x = ( ) ; }":                15,
		"proc p { x = 1 < 2 ; }":              15,
		"proc p { 1 = 2 ; }":                  9,
		"proc p { if ( x ) { } }":             16,
		"proc p { if ( x = 1 ) { } }":         16,
		"proc p { if ( x < 1 < 2 ) { } }":     20,
		"proc p { if ( ( x < 1 ) ) { } }":     18,
		"proc p { if ( x < 1 ) x = 2 ; }":     22,
		"proc p { else { } }":                 9,
		"proc p { if x < 1 { } }":             12,
		"proc p { while ( x < 1 ) { } ; }":    29,
		"proc p { while ( 1 ) { } else { } }": 19,
		"proc p { send c ( 1 ) ; }":           16,
		"proc p { send c . a 1 ; }":           20,
		"proc p { send c . a ( ) ; }":         22,
		"proc p { recv c { } }":               18,
		"proc p { recv c { a { } } }":         20,
		"proc p { recv c { a ( 1 ) { } } }":   22,
		"proc p { recv c { a ( x ) { } } ; }": 32,
		"proc p { assert ( 1 ) ; }":           20,
		"proc p { assert ( 1 < 2 ) }":         26,
		"proc p { input 1 ; }":                15,
		"proc p { { } }":                      9,
		"proc p { ; }":                        9,
		"chan c block 1":                      14,
		"chan c full 1":                       7,
		"chan c block x from":                 13,
		"chan c block 1 to p":                 15,
		"chan c block 1 from p to q { }":      29,
		"chan c block 1 from p to q { a b }":  31,
		"chan c block 1 from p to q { a , }":  33,
		"chan c block 1 from p to q { a } x":  33,
		"chan c block - 1":                    13,
		"rule c { 0 a ; }":                    13,
		"rule c { a 0 1 ; }":                  9,
		"rule c { 0 a 1 } ":                   15,
		"rule c { } ;":                        11,
		"rule c { } chan c block":             11,
		"proc p { } rule c":                   11,
		"proc p { } chan c":                   11,
		"x":                                   0,
		"var x ;":                             0,
		"; proc p { }":                        0,
	} {
		wantError(t, text, at, api.ErrForm)
	}
}

// Each piece of a text that is cut off ends too early, or is a system itself.
func TestP3_1_TextsThatEndTooEarly(t *testing.T) {
	words, _, _ := lex.Lex(wholeText)
	for _, w := range words {
		text := wholeText[:w.At]
		at, err := fault(text)
		if err == api.ErrForm && at != len(text) {
			t.Fatalf("%q: %d", text, at)
		}
		if err == api.OK {
			if _, _, e := Parse(text); e != api.OK {
				t.Error(text, e)
			}
			continue
		}
		wantError(t, text, len(text), api.ErrForm)
	}
}

func TestP3_1_WordsErrors(t *testing.T) {
	wantError(t, "proc p { x = 01 ; }", 13, api.ErrNum)
	wantError(t, "proc p { x = 2147483648 ; }", 13, api.ErrNum)
	wantError(t, "proc P { }", 5, api.ErrChar)
	wantError(t, "proc p { abcdefghijklm = 1 ; }", 9, api.ErrNum)
	wantError(t, "proc p { x = ! ; }", 13, api.ErrChar)
	wantError(t, "proc p { }\t", 10, api.ErrChar)
	// Without all its words a text has no word that could not stand there.
	wantError(t, "x = 1 ; A", 8, api.ErrChar)
}

func TestP3_1_HowManyWords(t *testing.T) {
	text := "proc p { " + strings.Repeat("input x ; ", 664) + "x = 1 ; }"
	if s, _, err := Parse(text); err != api.OK || len(s.Procs[0].Body) != 665 {
		t.Error(err)
	}
	above := "proc p { " + strings.Repeat("input x ; ", 663) + "x = 1 + 1 + 1 ; }"
	wantError(t, above, len(above), api.ErrLong)
	wantError(t, text+" ;", len(text)+2, api.ErrLong)
	row := "proc p { x = 1" + strings.Repeat(" + 1", 996) + " ; }"
	if _, _, err := Parse(row); err != api.OK {
		t.Error(err)
	}
}

func TestP3_1_DeepExpressions(t *testing.T) {
	for _, unit := range [][2]string{{"-", ""}, {"(", ")"}, {"1-(", ")"}, {"(1*", ")"}} {
		in := func(n int) string { return strings.Repeat(unit[0], n) + "x" + strings.Repeat(unit[1], n) }
		place := 24*len(unit[0]) + strings.IndexAny(unit[0], "-(")
		if unit[0] == "1-(" {
			place = 24*3 + 2
		}
		for _, around := range [][2]string{
			{"proc p{x=", ";}"},
			{"proc p{send c.a(", ");}"},
			{"proc p{assert(", "<1);}"},
			{"proc p{assert(1<", ");}"},
			{"proc p{if(1==", "){}}"},
			{"proc p{while(", "==1){recv c{a(x){}}}}"},
		} {
			if _, _, err := Parse(around[0] + in(24) + around[1]); err != api.OK {
				t.Error(unit, around, err)
			}
			wantError(t, around[0]+in(25)+around[1], len(around[0])+place, api.ErrDeep)
			wantError(t, around[0]+in(200)+around[1], len(around[0])+place, api.ErrDeep)
		}
	}
	minus := strings.Repeat("-", 24)
	for _, e := range []string{minus + "1*" + minus + "1", minus + "1-" + minus + "1"} {
		if _, _, err := Parse("proc p{x=" + e + ";}"); err != api.OK {
			t.Error(e, err)
		}
	}
	// Brackets that need not stand there are counted, too.
	wantError(t, "proc p { x = "+strings.Repeat("( ", 25)+"1"+strings.Repeat(" )", 25)+" ; }", 13+48, api.ErrDeep)
	wantError(t, "proc p{x="+strings.Repeat("(-", 12)+"-1"+strings.Repeat(")", 12)+";}", 9+24, api.ErrDeep)
	wantError(t, "proc p{x="+strings.Repeat("-(", 12)+"(1)"+strings.Repeat(")", 12)+";}", 9+24, api.ErrDeep)
}

func TestP3_1_DeepBlocks(t *testing.T) {
	for _, unit := range [][2]string{
		{"while(1==1){", "}"},
		{"if(1==1){", "}"},
		{"if(1==1){}else{", "}"},
		{"recv c{a(x){", "}}"},
		{"recv c{a(x){}b(x){", "}b(x){}}"},
	} {
		for _, inner := range []string{"", "x=" + strings.Repeat("-", 24) + "1;"} {
			in := func(n int) string {
				return "proc p{" + strings.Repeat(unit[0], n) + inner + strings.Repeat(unit[1], n) + "}"
			}
			if _, _, err := Parse(in(24)); err != api.OK {
				t.Error(unit, err)
			}
			// The first { that is in 24 others: of an if, its first block's one.
			first := strings.Index(unit[0], "{")
			if strings.HasPrefix(unit[0], "recv") {
				first = strings.Index(unit[0], "){") + 1
			}
			wantError(t, in(25), 7+24*len(unit[0])+first, api.ErrDeep)
			wantError(t, in(60), 7+24*len(unit[0])+first, api.ErrDeep)
		}
	}
	two := strings.Repeat("while(1==1){", 24) + strings.Repeat("}", 24)
	if _, _, err := Parse("proc p{" + two + two + "}proc q{" + two + "}"); err != api.OK {
		t.Error(err)
	}
}

// Of two errors of words that are words the one that stands first is told.
func TestP3_1_WhichErrorIsTold(t *testing.T) {
	minus := strings.Repeat("-", 25)
	wantError(t, "proc p{x="+minus+"1;} ;", 9+24, api.ErrDeep)
	wantError(t, "proc p{x=;x="+minus+"1;}", 9, api.ErrForm)
	wantError(t, "proc p{x="+minus, 9+24, api.ErrDeep)
	wantError(t, "proc p{x="+strings.Repeat("-", 24)+";}", 9+24, api.ErrForm)
	wantError(t, "proc p{"+strings.Repeat("while(1==1){", 24)+"if(1==1)(", 7+24*12+8, api.ErrForm)
	wantError(t, "proc p{"+strings.Repeat("while(1==1){", 24)+"while(){", 7+24*12+6, api.ErrForm)
	wantError(t, "proc p{"+strings.Repeat("while(1==1){", 24)+"while(1==1){if", 7+24*12+11, api.ErrDeep)
}

func wantAsGrammar(t *testing.T, text string) {
	t.Helper()
	at, err := fault(text)
	if err != api.OK {
		wantError(t, text, at, err)
		return
	}
	s, a, e := Parse(text)
	if a != 0 || e != api.OK {
		t.Errorf("Parse(%q) = %d, %d; want 0, 0", text, a, e)
		return
	}
	again, e := ast.Text(s)
	if e == api.OK {
		wantSystem(t, again, s)
	} else if e != api.ErrLong {
		t.Errorf("Text of Parse(%q): %d", text, e)
	}
}

func TestP3_1_AllShortExpressions(t *testing.T) {
	signs := []string{"a", "1", "(", ")", "+", "-", "*", "<", ";", "{", "}", "if"}
	var row [5]string
	var fill func(n int)
	fill = func(n int) {
		wantAsGrammar(t, "proc p { x = "+strings.Join(row[:n], " ")+" ; }")
		wantAsGrammar(t, "proc p { if ( "+strings.Join(row[:n], " "))
		if n == 4 || t.Failed() {
			return
		}
		for _, sign := range signs {
			row[n] = sign
			fill(n + 1)
		}
	}
	fill(0)
}

var someWords = []string{"chan", "block", "drop", "lossy", "from", "to", "rule", "proc", "var", "if", "else", "while", "send", "recv", "assert", "input", "{", "}", "(", ")", ";", ",", ".", "=", "==", "!=", "<", "<=", ">", ">=", "+", "-", "*", "/", "%", "a", "x", "0", "12", "-", "(", "A", "01"}

// spoil changes some words of a text.
func spoil(random *rand.Rand, words []string) []string {
	words = slices.Clone(words)
	for range random.Intn(3) {
		at := random.Intn(len(words) + 1)
		other := someWords[random.Intn(len(someWords))]
		switch random.Intn(4) {
		case 0:
			words = slices.Insert(words, at, other)
		case 1:
			words = words[:at]
		case 2:
			if at < len(words) {
				words = slices.Delete(words, at, at+1)
			}
		case 3:
			if at < len(words) {
				words[at] = other
			}
		}
	}
	return words
}

func TestP3_1_RandomTexts(t *testing.T) {
	random := rand.New(rand.NewSource(3))
	told := map[api.Errno]int{}
	for round := 0; round < 8000 && !t.Failed(); round++ {
		start, size := part("system", 0), 10+random.Intn(120)
		words := randomWords(random, start, &size)
		switch round % 4 {
		case 1:
			words = append([]string{"proc", "p", "{"}, randomWords(random, part("stmts", 22), &size)...)
			words = append(slices.Insert(words, 3, strings.Fields(strings.Repeat("while ( 1 == x ) { ", 22))...), strings.Fields(strings.Repeat("} ", 23))...)
		case 2:
			words = randomWords(random, part("sum", 22), &size)
			words = slices.Concat([]string{"proc", "p", "{", "x", "="}, strings.Fields(strings.Repeat("- ( ", 11)), words, strings.Fields(strings.Repeat(") ", 11)), []string{";", "}"})
		}
		text := strings.Join(spoil(random, words), []string{" ", "\n", "  "}[random.Intn(3)])
		wantAsGrammar(t, text)
		_, err := fault(text)
		told[err]++
	}
	for _, err := range []api.Errno{api.OK, api.ErrForm, api.ErrDeep, api.ErrChar, api.ErrNum} {
		if told[err] < 50 {
			t.Error("too few texts of", err, told)
		}
	}
}

func TestP1_AnyBytes(t *testing.T) {
	random := rand.New(rand.NewSource(4))
	for round := 0; round < 20000 && !t.Failed(); round++ {
		text := []byte(wholeText)
		from := random.Intn(len(text))
		text = text[from : from+random.Intn(len(text)-from)]
		for range random.Intn(4) {
			if len(text) > 0 {
				text[random.Intn(len(text))] = byte(random.Intn(256))
			}
		}
		wantAsGrammar(t, string(text))
	}
	long := strings.Repeat("proc p { x = ( - { ", 200000)
	wantError(t, long, len(long), api.ErrLong)
}

func randomExpr(random *rand.Rand, deep int) ast.Expr {
	kind := random.Intn(11)
	switch {
	case deep == 0 || kind < 2:
		return num([]int{0, 1, 10, 2147483647}[random.Intn(4)])
	case kind < 4:
		return name([]string{"x", "y9", "abcdefghijkl"}[random.Intn(3)])
	case kind == 4:
		return op(ast.Neg, randomExpr(random, deep-1))
	}
	return op(ast.Add+random.Intn(5), randomExpr(random, deep-1), randomExpr(random, deep-1))
}

func randomBody(random *rand.Rand, deep int) []ast.Stmt {
	var list []ast.Stmt
	for range random.Intn(4) {
		st := ast.Stmt{Kind: 1 + random.Intn(7), Name: "n", Tag: "t", E: randomExpr(random, 4)}
		st.C = ast.Cond{Op: 1 + random.Intn(6), L: randomExpr(random, 3), R: randomExpr(random, 3)}
		if deep > 0 {
			st.Body, st.Else = randomBody(random, deep-1), randomBody(random, deep-1)
		}
		for range 1 + random.Intn(2) {
			arm := ast.Arm{Tag: "a", Var: "v"}
			if deep > 0 {
				arm.Body = randomBody(random, deep-1)
			}
			st.Arms = append(st.Arms, arm)
		}
		list = append(list, st)
	}
	return list
}

func TestP3_2_TextAndBack(t *testing.T) {
	random := rand.New(rand.NewSource(2))
	texts := 0
	for round := 0; round < 20000 && !t.Failed(); round++ {
		s := value(randomExpr(random, 1+random.Intn(8)))
		if round%4 == 0 {
			s = proc(randomBody(random, random.Intn(3))...)
			s.Chans = append(s.Chans, ast.Chan{Name: "c", Kind: random.Intn(3), Size: random.Intn(20), From: "a", To: "b", Tags: slices.Repeat([]string{"t"}, 1+random.Intn(3))})
			s.Rules = append(s.Rules, ast.Rule{Chan: "c", Moves: slices.Repeat([]ast.Move{{From: random.Intn(9), Tag: "t", To: 2}}, random.Intn(3))})
		}
		text, err := ast.Text(s)
		if err != api.OK {
			continue
		}
		texts++
		wantSystem(t, text, s)
		wantSystem(t, strings.ReplaceAll(text, " ", " \n"), s)
	}
	if texts < 10000 {
		t.Error("too few systems with a text:", texts)
	}
}

// Of the deepest systems that have a text, too.
func TestP3_2_DeepestTextAndBack(t *testing.T) {
	e := num(1)
	for range 8 {
		// - ( x - ( e + 2 ) ): three more that stand in each other.
		e = op(ast.Neg, op(ast.Sub, name("x"), op(ast.Add, e, num(2))))
	}
	body := []ast.Stmt{{Kind: ast.Assign, Name: "x", E: e}}
	for i := range 24 {
		c := ast.Cond{Op: ast.Eq, L: name("x"), R: num(i)}
		if i < 2 {
			c.L = e
		}
		switch i % 3 {
		case 0:
			body = []ast.Stmt{{Kind: ast.While, C: c, Body: body}}
		case 1:
			body = []ast.Stmt{{Kind: ast.If, C: c, Else: body}}
		case 2:
			body = []ast.Stmt{{Kind: ast.Recv, Name: "c", Arms: []ast.Arm{{Tag: "a", Var: "x", Body: body}}}}
		}
	}
	text, err := ast.Text(proc(body...))
	if err != api.OK {
		t.Fatal(err)
	}
	wantSystem(t, text, proc(body...))
}

func TestP3_3_AnswersAreNewMemory(t *testing.T) {
	text := strings.Clone(wholeText)
	s, _, _ := Parse(text)
	from := uintptr(unsafe.Pointer(unsafe.StringData(text)))
	if at := uintptr(unsafe.Pointer(unsafe.StringData(s.Chans[2].Tags[2]))); at >= from && at < from+uintptr(len(text)) {
		t.Error("a name is a piece of the text")
	}
	for i := range s.Chans {
		s.Chans[i].Tags = append(s.Chans[i].Tags, "more")
		s.Chans[i].Tags[0] = "other"
	}
	for i := range s.Procs {
		s.Procs[i].Vars = append(s.Procs[i].Vars, "more")
		body := append(s.Procs[i].Body, ast.Stmt{})
		body[0] = ast.Stmt{}
	}
	s.Rules[0].Moves[0] = ast.Move{}
	if s.Chans[1].Tags[1] != "more" || s.Chans[2].Tags[1] != "a" {
		t.Error("two lists share memory")
	}
	wantSystem(t, text, whole())
}
