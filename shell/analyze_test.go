package shell_test

import (
	"fmt"
	"math"
	"math/rand"
	"regexp"
	"strings"
	"testing"

	"jetsam/api"
	"jetsam/outer"
	"jetsam/report"
	"jetsam/shell"
)

func wantAnalyzed(t *testing.T, text string, budget int, want string) {
	t.Helper()
	if got := shell.Analyze(text, budget); got != want {
		t.Errorf("Analyze(%.300q, %d):\n%swant\n%s", text, budget, got, want)
	}
}

// faulty are texts that aren't analyzed, nor run, and what is told of them.
func faulty() map[string]string {
	const pair = " ; proc p { var x ; } proc q { var x ; }"
	many := func(word string, count int) string { return strings.Repeat(word, count) }
	long := "proc p { " + many("; ", 1998)
	return map[string]string{
		// As the document's examples have it.
		"proc p { x = 1 ; }": "check error 8",
		"proc p":             "syntax error 5 at 6",
		"01":                 "syntax error 3 at 0",
		// Of words, of each kind.
		"proc p { A }":                                   "syntax error 2 at 9",
		"proc p { x = 2147483648 ; }":                    "syntax error 3 at 13",
		"proc p { } proc abcdefghijklm { }":              "syntax error 3 at 16",
		"proc p { } \x00":                                "syntax error 2 at 11",
		"proc p { } é":                                   "syntax error 2 at 11",
		long:                                             fmt.Sprint("syntax error 4 at ", len(long)),
		strings.TrimSuffix(long, "; "):                   "syntax error 5 at 9",
		"proc p { } }":                                   "syntax error 5 at 11",
		"proc p { x = 1 + ; }":                           "syntax error 5 at 17",
		"proc p { } \n\n":                                "",
		"proc p { if ( 1 == 1 ) { } else { }":            "syntax error 5 at 35",
		"proc p { x = " + many("( ", 25):                 fmt.Sprint("syntax error 6 at ", 13+2*24),
		"proc p { x = " + many("- ", 25) + "1 ; }":       fmt.Sprint("syntax error 6 at ", 13+2*24),
		"proc p { " + many("while ( 1 == 1 ) { ", 25):    fmt.Sprint("syntax error 6 at ", 9+19*24+17),
		"proc p { " + many("x = 1 ; ", 500) + "x = 1 ; ": fmt.Sprint("syntax error 4 at ", 9+8*501),
		// Of systems, of each kind.
		"":                      "check error 10",
		"\n \n":                 "check error 10",
		"proc p { } proc p { }": "check error 7",
		"chan c block 1 from p to p { a }" + pair:                                                         "check error 9",
		"chan c block 1 from p to r { a }" + pair:                                                         "check error 8",
		"chan c block 0 from p to q { a }" + pair:                                                         "check error 10",
		"chan c lossy 17 from p to q { a }" + pair:                                                        "check error 10",
		"chan c block 2147483647 from p to q { a }" + pair:                                                "check error 10",
		"chan c drop 1 from p to q { a , a }" + pair:                                                      "check error 7",
		"chan c drop 1 from p to q { a } ; rule c { 8 a 0 ; } proc p { } proc q { }":                      "check error 11",
		"chan c drop 1 from p to q { a } ; rule c { 0 a 2147483647 ; } proc p { } proc q { }":             "check error 11",
		"chan c drop 1 from p to q { a } ; proc p { } proc q { send c . a ( 1 ) ; }":                      "check error 9",
		"proc p { } proc q { } proc r { } proc s { } proc t { }":                                          "check error 10",
		"proc p { var a ; var b ; var e ; var f ; var g ; var h ; var i ; }":                              "check error 10",
		"proc p { var x ; " + many("x = 1 ; ", 401) + "}":                                                 "check error 10",
		"proc p { } proc q { " + many("if ( 1 == 1 ) { } ", 101) + "}":                                    "check error 10",
		"proc p { var x ; " + many("x = 1 ; ", 400) + "}":                                                 "",
		"proc p { } proc q { " + many("if ( 1 == 1 ) { } ", 100) + "}":                                    "",
		"proc p { var x ; x = " + many("( ", 24) + "1 " + many(") ", 24) + "; }":                          "",
		"chan c block 16 from p to q { a , b , c , d } ; proc p { } proc q { } proc r { } proc s { }":     "",
		"chan c drop 1 from p to q { a } ; rule c { 7 a 7 ; } proc p { } proc q { }":                      "",
		"proc p { var a ; var b ; var e ; var f ; var g ; var h ; a = 2147483647 ; } proc abcdefghijkl{}": "",
		// Where there are more than one: words first, then the tree, names, and edges.
		"proc p { x = 1 ; } proc p { } ( A":                                                    "syntax error 2 at 32",
		"proc p { x = 1 ; } proc p { } (":                                                      "syntax error 5 at 30",
		"proc p { } proc p { x = 1 ; }":                                                        "check error 7",
		"proc p { " + many("if ( 1 == 1 ) { } ", 101) + "} proc q { x = 1 ; }":                 "check error 8",
		"proc p { " + many("if ( 1 == 1 ) { } ", 101) + "} proc q { x = " + many("( ", 25):     fmt.Sprint("syntax error 6 at ", 9+18*101+15+2*24),
		"chan c drop 1 from p to q { a } ; rule c { 9 a 0 ; } proc p { x = 1 ; } proc q { } ,": "syntax error 5 at 83",
	}
}

func TestP18_1_Example(t *testing.T) {
	wantAnalyzed(t, "proc p { x = 1 ; }", -1, "check error 8\n")
}

// What is wrong with a text is told, whatever the budget is.
func TestP18_1_AnalyzeOfFaultyTexts(t *testing.T) {
	for text, want := range faulty() {
		if want == "" {
			if got := shell.Analyze(text, -1); !strings.HasPrefix(got, "complete\nsteps ") {
				t.Errorf("%.300q: %q", text, got)
			}
			continue
		}
		for _, budget := range []int{-1, 0, 1, math.MinInt, math.MaxInt} {
			wantAnalyzed(t, text, budget, lines(want))
		}
	}
}

func TestP18_1_Complete(t *testing.T) {
	for text, want := range map[string][]string{
		"proc p { }": {"steps 2", "process 0", "node 0: nothing", "node 1: nothing", "no alarm"},
		"proc p { var x ; x = 3 ; assert ( x == 3 ) ; }": {"steps 6", "process 0", "node 0: 0", "node 1: 3", "node 2: 3", "no alarm"},
		handed: {"steps 22",
			"process 0", "node 0: 0", "node 1: 3", "node 2: 3", "process 1", "node 0: 0", "node 1: 3", "node 2: 3",
			"channel 0: 0 to 1 messages, tag 0: 3", "no alarm"},
		strings.ReplaceAll(handed, "y == 3", "y == 4"): {"steps 20",
			"process 0", "node 0: 0", "node 1: 3", "node 2: 3", "process 1", "node 0: 0", "node 1: never", "node 2: 3",
			"channel 0: 0 to 1 messages, tag 0: 3", "failed assertion at process 1 edge 1", "1 alarms"},
		"chan c drop 1 from p to q { a , b } ; rule c { 0 b 0 ; } proc p { var x ; input x ; send c . b ( x ) ; x = 7 / ( x + 1 ) ; send c . a ( x ) ; } proc q { var y ; recv c { a ( y ) { } } }": {"steps 24",
			"process 0", "node 0: 0", "node 1: never", "node 2: any", "node 3: any", "node 4: -7 to 7", "process 1", "node 0: 0", "node 1: never", "node 2: never",
			"channel 0: 0 to 1 messages, tag 1: any",
			"overflow at process 0 edge 2", "division by zero at process 0 edge 2", "broken rule at process 0 edge 3", "wrong tag at process 1 edge 0", "4 alarms"},
		"chan c drop 1 from p to q { a } ; proc p { send c . a ( 1 ) ; send c . a ( 2 ) ; } proc q { }": {"steps 12",
			"process 0", "node 0: nothing", "node 1: never", "node 2: nothing", "process 1", "node 0: nothing", "node 1: nothing",
			"channel 0: 0 to 1 messages, tag 0: 1", "full channel at process 0 edge 1", "1 alarms"},
	} {
		wantAnalyzed(t, text, -1, lines(append([]string{"complete"}, want...)...))
	}
}

// A budget that is just enough is, and one that is less by one isn't. One below
// 0 is always enough.
func TestP18_1_Budgets(t *testing.T) {
	for text, steps := range map[string]int{"proc p { }": 2, handed: 22, strings.ReplaceAll(handed, "y == 3", "y == 4"): 20} {
		want := shell.Analyze(text, -1)
		if !strings.HasPrefix(want, lines("complete", fmt.Sprint("steps ", steps))) {
			t.Error(want)
		}
		for budget := range steps {
			wantAnalyzed(t, text, budget, lines(fmt.Sprintf("budget exceeded in %d steps", budget)))
		}
		for _, budget := range []int{steps, steps + 1, 1 << 40, math.MaxInt, -2, -1000, -1 << 31, math.MinInt} {
			wantAnalyzed(t, text, budget, want)
		}
	}
}

// inWords is what is to be told of a system, its text not looked at.
func inWords(x system, budget int) string {
	if x.err != api.OK {
		return fmt.Sprintf("check error %d\n", x.err)
	}
	if budget < 0 {
		budget = outer.Bound(x.sys)
	}
	r, err := outer.Analyze(x.sys, budget)
	if err != api.OK {
		return fmt.Sprintf("budget exceeded in %d steps\n", r.Steps)
	}
	return "complete\n" + report.Text(r)
}

func TestP18_1_AnalyzeInWords(t *testing.T) {
	random := rand.New(rand.NewSource(191))
	told := map[string]int{}
	for range 2500 {
		x := anySystem(t, random)
		if random.Intn(4) == 0 {
			x = ring(t, random)
		}
		for _, budget := range []int{-1, random.Intn(200)} {
			want := inWords(x, budget)
			wantAnalyzed(t, x.text, budget, want)
			told[strings.Fields(want)[0]]++
		}
	}
	if told["complete"] < 1000 || told["budget"] < 500 {
		t.Error("too few of one kind:", told)
	}
}

// Of every text just one of these is told, and with a budget that is enough
// never that it was exceeded.
func TestP6_JustOneIsTold(t *testing.T) {
	kinds := []*regexp.Regexp{
		regexp.MustCompile(`^syntax error [2-6] at (0|[1-9][0-9]*)\n$`),
		regexp.MustCompile(`^check error ([7-9]|10|11)\n$`),
		regexp.MustCompile(`^budget exceeded in (0|[1-9][0-9]*) steps\n$`),
		regexp.MustCompile(`^complete\nsteps [1-9][0-9]*\nprocess 0\n(.+\n)*(no alarm|[1-9][0-9]* alarms)\n$`),
	}
	random := rand.New(rand.NewSource(192))
	told := [4]int{}
	for range 4000 {
		text := anyText(t, random)
		budget := []int{-1, -1 - random.Intn(1000), random.Intn(100)}[random.Intn(3)]
		got := shell.Analyze(text, budget)
		one := -1
		for at, kind := range kinds {
			if kind.MatchString(got) {
				one = at
			}
		}
		if one < 0 || one == 2 && budget < 0 {
			t.Fatalf("Analyze(%q, %d): %q", text, budget, got)
		}
		if again := shell.Analyze(text, budget); again != got {
			t.Fatalf("Analyze(%q, %d): %q, and then %q", text, budget, got, again)
		}
		told[one]++
	}
	for at, many := range told {
		if many < 200 {
			t.Error("too few of", kinds[at], told)
		}
	}
}

// Texts of the greatest systems, with loops in loops: there Analyze ends, too.
func TestP6_BoundIsEnough(t *testing.T) {
	vars := "var a ; var b ; var e ; var f ; var g ; var h ; "
	loop := func(at int) string {
		x, y := "abefgh"[at%6:][:1], "abefgh"[(at+1)%6:][:1]
		return strings.NewReplacer("X", x, "Y", y).Replace("while ( X < 100 ) { X = X + 1 ; Y = X - Y ; ")
	}
	var nested, next strings.Builder
	for at := range 24 {
		nested.WriteString(loop(at))
	}
	nested.WriteString(strings.Repeat("} ", 24))
	for at := range 90 {
		next.WriteString(loop(at) + "} ")
	}
	for _, body := range []string{nested.String(), strings.Repeat(nested.String(), 3), next.String()} {
		got := shell.Analyze("proc p { "+vars+body+"}", -1)
		if !strings.HasPrefix(got, "complete\n") {
			t.Error(body, got)
		}
	}
}
