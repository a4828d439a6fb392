package ast

// Short calls that make trees.

func num(n int) Expr { return Expr{Kind: Num, Num: n} }

func name(s string) Expr { return Expr{Kind: Var, Name: s} }

func op(kind int, kids ...Expr) Expr { return Expr{Kind: kind, Kids: kids} }

func cond(op int, l, r Expr) Cond { return Cond{Op: op, L: l, R: r} }

func assign(s string, e Expr) Stmt { return Stmt{Kind: Assign, Name: s, E: e} }

func input(s string) Stmt { return Stmt{Kind: Input, Name: s} }

func while(body ...Stmt) Stmt {
	return Stmt{Kind: While, C: cond(Lt, name("x"), num(9)), Body: body}
}

func proc(body ...Stmt) System { return System{Procs: []Proc{{Name: "p", Body: body}}} }

func value(e Expr) System { return proc(assign("x", e)) }

// repeat wraps a thing so many times.
func repeat[T any](x T, times int, wrap func(T) T) T {
	for range times {
		x = wrap(x)
	}
	return x
}

// whole has each thing that a system may have.
func whole() System {
	return System{
		Chans: []Chan{
			{Name: "c", Kind: 0, Size: 3, From: "p", To: "q", Tags: []string{"a", "b"}},
			{Name: "d", Kind: 1, Size: 0, From: "q", To: "p", Tags: []string{"a"}},
			{Name: "e", Kind: 2, Size: 2147483647, From: "q", To: "q", Tags: []string{"a", "a", "z9"}},
		},
		Rules: []Rule{
			{Chan: "c", Moves: []Move{{From: 0, Tag: "a", To: 1}, {From: 2147483647, Tag: "b", To: 0}}},
			{Chan: "nowhere"},
		},
		Procs: []Proc{
			{Name: "p", Vars: []string{"x", "y"}, Body: []Stmt{
				assign("x", op(Sub, num(1), op(Neg, name("y")))),
				{Kind: Send, Name: "c", Tag: "a", E: op(Mul, name("x"), num(2))},
				{Kind: If, C: cond(Eq, name("x"), num(0)), Body: []Stmt{input("y")}, Else: []Stmt{input("x"), input("z")}},
				{Kind: If, C: cond(Ge, name("x"), num(0))},
			}},
			{Name: "q", Body: []Stmt{
				while(Stmt{Kind: Recv, Name: "c", Arms: []Arm{
					{Tag: "a", Var: "x", Body: []Stmt{{Kind: Assert, C: cond(Ne, num(1), name("x"))}}},
					{Tag: "b", Var: "y"},
				}}),
				while(),
			}},
			{Name: "r"},
		},
	}
}

const wholeText = "chan c block 3 from p to q { a , b } ; chan d drop 0 from q to p { a } ; chan e lossy 2147483647 from q to q { a , a , z9 } ; " +
	"rule c { 0 a 1 ; 2147483647 b 0 ; } rule nowhere { } " +
	"proc p { var x ; var y ; x = 1 - - y ; send c . a ( x * 2 ) ; if ( x == 0 ) { input y ; } else { input x ; input z ; } if ( x >= 0 ) { } } " +
	"proc q { while ( x < 9 ) { recv c { a ( x ) { assert ( 1 != x ) ; } b ( y ) { } } } while ( x < 9 ) { } } " +
	"proc r { } "
