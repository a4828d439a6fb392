package shell_test

import (
	"fmt"
	"math/rand"
	"slices"
	"strings"
	"testing"
	"unicode/utf8"

	"jetsam/shell"
)

// isNever: does the analysis say of one of the nodes of a run's last line that
// its process is never there?
func isNever(analyzed []string, line string) bool {
	for proc, node := range strings.Fields(line)[1:] {
		nodes := analyzed[slices.Index(analyzed, fmt.Sprint("process ", proc)):]
		isNode := func(line string) bool { return strings.HasPrefix(line, "node "+node+": ") }
		if nodes[slices.IndexFunc(nodes, isNode)] == "node "+node+": never" {
			return true
		}
	}
	return false
}

// What a text's run comes to is among what its analysis tells: the nodes at
// which it ends, and the error. So without alarms there is none.
func TestP4_RunsAreAsAnalyzed(t *testing.T) {
	random := rand.New(rand.NewSource(194))
	faults, ends, quiet := 0, 0, 0
	for range 1000 {
		x := anySystem(t, random)
		if random.Intn(2) == 0 {
			x = ring(t, random)
		}
		analyzed := cut(t, shell.Analyze(x.text, -1))
		for range 3 {
			text := script([]int{10, 60, 250}[random.Intn(3)], random)
			ran := cut(t, shell.Run(x.text, text))
			last := ran[len(ran)-1]
			switch {
			case !strings.HasPrefix(last, "at "):
				faults++
				if !slices.Contains(analyzed, last) {
					t.Fatalf("no such alarm: %q by %q: %q", x.text, text, last)
				}
			case isNever(analyzed, last):
				t.Fatalf("never there: %q by %q: %q", x.text, text, last)
			default:
				ends++
			}
			if slices.Contains(analyzed, "no alarm") {
				quiet++
			}
		}
	}
	if faults < 300 || ends < 1000 || quiet < 200 {
		t.Error("too few of one kind:", faults, ends, quiet)
	}
}

func TestP1_AnyBytes(t *testing.T) {
	random := rand.New(rand.NewSource(195))
	noise := func(many int) string {
		list := make([]byte, random.Intn(many))
		for at := range list {
			list[at] = byte(random.Intn(256))
		}
		return string(list)
	}
	for range 3000 {
		text, signs := anyText(t, random), noise(60)
		if random.Intn(3) == 0 {
			text = noise(300)
		}
		told, ran := shell.Analyze(text, random.Intn(80)-20), shell.Run(text, signs)
		if !utf8.ValidString(told) || !utf8.ValidString(ran) {
			t.Errorf("%q by %q: %q, %q", text, signs, told, ran)
		}
		faulty := strings.HasPrefix(told, "syntax error ") || strings.HasPrefix(told, "check error ")
		if first := cut(t, told)[0] + "\n"; faulty && (ran != first || told != first) {
			t.Errorf("%q by %q: %q, %q", text, signs, told, ran)
		}
	}
}

func TestP1_LongScripts(t *testing.T) {
	const text = "proc p { var x ; while ( 0 == 0 ) { x = 1 - x ; } } proc q { }"
	got := shell.Run(text, strings.Repeat("0.a", 50000)+"1")
	if got != strings.Repeat("moved\n", 100001)+"at 0 1\n" {
		t.Error(len(got), got[max(0, len(got)-30):])
	}
}
