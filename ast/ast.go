// Package ast is layer 2: systems as trees: see shared/doc/02-ast.md.
package ast

// Kinds of expressions.
const (
	Num = 1
	Var = 2
	Neg = 3
	Add = 4
	Sub = 5
	Mul = 6
	Div = 7
	Mod = 8
)

// Comparisons.
const (
	Eq = 1
	Ne = 2
	Lt = 3
	Le = 4
	Gt = 5
	Ge = 6
)

// Kinds of statements.
const (
	Assign = 1
	If     = 2
	While  = 3
	Send   = 4
	Recv   = 5
	Assert = 6
	Input  = 7
)

// Expr is an expression; Cond compares two.
type Expr struct {
	Kind int
	Num  int
	Name string
	Kids []Expr
}

type Cond struct {
	Op   int
	L, R Expr
}

// Stmt is a statement; Arm is what is done with a message of a tag.
type Stmt struct {
	Kind       int
	Name, Tag  string
	E          Expr
	C          Cond
	Body, Else []Stmt
	Arms       []Arm
}

type Arm struct {
	Tag, Var string
	Body     []Stmt
}

// Chan, Rule, Proc are what a system declares.
type Chan struct {
	Name       string
	Kind, Size int
	From, To   string
	Tags       []string
}

type Move struct {
	From int
	Tag  string
	To   int
}

type Rule struct {
	Chan  string
	Moves []Move
}

type Proc struct {
	Name string
	Vars []string
	Body []Stmt
}

// System is all of them.
type System struct {
	Chans []Chan
	Rules []Rule
	Procs []Proc
}
