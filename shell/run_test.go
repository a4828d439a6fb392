package shell_test

import (
	"fmt"
	"math/rand"
	"slices"
	"strconv"
	"strings"
	"testing"

	"jetsam/api"
	"jetsam/fix"
	"jetsam/report"
	"jetsam/shell"
	"jetsam/step"
)

func wantRun(t *testing.T, text, script string, want ...string) {
	t.Helper()
	if got := shell.Run(text, script); got != lines(want...) {
		t.Errorf("Run(%.300q, %.300q):\n%swant\n%s", text, script, got, lines(want...))
	}
}

// What is wrong with a text is told as Analyze does, whatever the script is.
func TestP18_1_RunOfFaultyTexts(t *testing.T) {
	for text, want := range faulty() {
		for _, script := range []string{"", "0", "0123abcd", "?"} {
			got := shell.Run(text, script)
			if want == "" && strings.Contains(got, "error") || want != "" && got != lines(want) {
				t.Errorf("Run(%.300q, %q): %q, want %q", text, script, got, want)
			}
		}
	}
}

func TestP18_1_Run(t *testing.T) {
	wantRun(t, "proc p { }", "", "at 0")
	wantRun(t, "proc p { }", "0", "moved", "at 1")
	wantRun(t, "proc p { }", "00", "moved", "waits", "at 1")
	wantRun(t, handed, "", "at 0 0")
	wantRun(t, handed, "0", "moved", "at 2 0")
	wantRun(t, handed, "10101", "waits", "moved", "waits", "moved", "moved", "at 1 2")
	wantRun(t, handed, "0011", "moved", "moved", "moved", "moved", "at 1 1")
	wantRun(t, handed, "001101", "moved", "moved", "moved", "moved", "waits", "waits", "at 1 1")
	// Who isn't there waits.
	wantRun(t, handed, "23cd0", "waits", "waits", "waits", "waits", "moved", "at 2 0")
	wantRun(t, "proc p { }", "123bcd", "waits", "waits", "waits", "waits", "waits", "waits", "at 0")
}

// An error's words are the last line: its pick has no other one, and no pick
// behind it has any.
func TestP18_1_RunToAnError(t *testing.T) {
	four := strings.ReplaceAll(handed, "y == 3", "y == 4")
	for _, script := range []string{"0011", "001100110011", "0.0 1 1 0", "0011\xff"} {
		wantRun(t, four, script, "moved", "moved", "moved", "failed assertion at process 1 edge 1")
	}
	wantRun(t, four, "001", "moved", "moved", "moved", "at 1 2")
	const pair = "chan c drop 1 from p to q { a , b } ; rule c { 0 a 1 ; 1 a 1 ; } proc p { send c . a ( 1 ) ; send c . TAG ( 2 ) ; } proc q { var x ; recv c { b ( x ) { } } }"
	wantRun(t, strings.ReplaceAll(pair, "TAG", "a"), "00", "moved", "full channel at process 0 edge 1")
	wantRun(t, strings.ReplaceAll(pair, "TAG", "b"), "00", "moved", "broken rule at process 0 edge 1")
	wantRun(t, pair[:strings.Index(pair, "send c . TAG")]+pair[strings.Index(pair, "} proc q"):], "101", "waits", "moved", "wrong tag at process 1 edge 0")
	wantRun(t, "proc p { } proc q { var x ; x = 1 ; x = x / ( x - 1 ) ; }", "1010", "moved", "moved", "division by zero at process 1 edge 1")
	wantRun(t, "proc p { } proc q { } proc r { } proc s { var x ; while ( 0 == 0 ) { x = x * 2 + 1 ; } }", strings.Repeat("3", 100),
		append(slices.Repeat([]string{"moved"}, 63), "overflow at process 3 edge 2")...)
}

// Each process has two signs, and all other signs are none.
func TestP18_1_Signs(t *testing.T) {
	const four = "proc p { } proc q { } proc r { } proc s { }"
	for at, want := range []string{"at 1 0 0 0", "at 0 1 0 0", "at 0 0 1 0", "at 0 0 0 1"} {
		wantRun(t, four, "0123"[at:][:1], "moved", want)
		wantRun(t, four, "abcd"[at:][:1], "moved", want)
	}
	wantRun(t, four, "3b0c", "moved", "moved", "moved", "moved", "at 1 1 1 1")
	for sign := range 256 {
		if !strings.Contains("0123abcd", string([]byte{byte(sign)})) {
			wantRun(t, four, string([]byte{byte(sign)}), "at 0 0 0 0")
		}
	}
	// Signs that are more than a byte, also such as have the bits of a pick.
	wantRun(t, four, "é٣３\u0130\u0161\u3161\U00010030", "at 0 0 0 0")
	wantRun(t, four, " 4\x00e0/`AD-1\n", "moved", "moved", "at 1 1 0 0")
}

// A process is given as many as the place of the sign, others counted, too.
func TestP18_1_PlacesAreGiven(t *testing.T) {
	for script, place := range map[string]int{
		"00": 0, "aa": 0, "100": 1, "?00": 1, "1a0": 1, "2345600": 5, "...aa": 3, "\xff\x00-xa0": 4,
		// A place is that of a byte, as everywhere.
		"é 00": 3, strings.Repeat("1", 500) + "00": 500, strings.Repeat(" ", 70000) + "0a": 70000,
	} {
		for given := max(place-1, 0); given <= place+1; given++ {
			text := fmt.Sprintf("proc p { var x ; input x ; assert ( x == %d ) ; }", given)
			want := "failed assertion at process 0 edge 1\n"
			if given == place {
				want = "moved\nat 1\n"
			}
			if got := shell.Run(text, script); !strings.HasSuffix(got, "moved\n"+want) {
				t.Errorf("%.50q of %d: %.300q", script, given, got)
			}
		}
	}
}

func TestP18_1_WhatIsLost(t *testing.T) {
	const text = "chan c lossy 2 from p to q { a } ; proc p { send c . a ( 1 ) ; send c . a ( 2 ) ; send c . a ( 3 ) ; } proc q { var x ; while ( 0 == 0 ) { recv c { a ( x ) { assert ( x != 2 ) ; } } } }"
	// Nothing is lost; then the third one is, for which there is no room.
	wantRun(t, text, "00111111", "moved", "moved", "moved", "moved", "moved", "moved", "moved", "failed assertion at process 1 edge 3")
	wantRun(t, text, "000a", "moved", "moved", "moved", "waits", "at 1 0")
	// The second one is lost, and then all of them.
	wantRun(t, text, "0a01111111", "moved", "moved", "moved", "moved", "moved", "moved", "moved", "moved", "moved", "moved", "at 1 2")
	wantRun(t, text, "aaa11", "moved", "moved", "moved", "moved", "waits", "at 1 2")
	// Who takes something loses nothing.
	wantRun(t, text, "0bbb", "moved", "moved", "moved", "moved", "at 2 0")
}

// ranInWords is what is to be told of a run, by its configurations alone.
func ranInWords(t *testing.T, x system, script string) []string {
	t.Helper()
	if x.err != api.OK {
		return []string{"check error " + strconv.Itoa(int(x.err))}
	}
	var list []step.Pick
	for at := range len(script) {
		if proc := strings.IndexByte("0123abcd", script[at]); proc >= 0 {
			list = append(list, step.Pick{Proc: proc % 4, Lose: proc > 3, Input: at})
		}
	}
	all, done, err := step.Run(x.sys, list)
	if err != api.OK {
		t.Fatal(x, err)
	}
	var told []string
	for at, c := range all[1:] {
		// Who moves is at another node behind it.
		if slices.Equal(c.At, all[at].At) {
			told = append(told, "waits")
		} else {
			told = append(told, "moved")
		}
	}
	if done.Kind != 0 {
		return append(told, report.Alarm(fix.Alarm{Proc: done.Proc, Edge: done.Edge, Kind: done.Kind}))
	}
	at := "at"
	for _, node := range all[len(all)-1].At {
		at += " " + strconv.Itoa(node)
	}
	return append(told, at)
}

func TestP18_1_RunInWords(t *testing.T) {
	random := rand.New(rand.NewSource(193))
	told := map[string]int{}
	for range 3000 {
		x := anySystem(t, random)
		if random.Intn(3) == 0 {
			x = ring(t, random)
		}
		text := script([]int{5, 50, 200}[random.Intn(3)], random)
		want := ranInWords(t, x, text)
		wantRun(t, x.text, text, want...)
		for _, line := range want {
			told[strings.Fields(line)[0]]++
		}
	}
	for _, word := range []string{"at", "failed", "overflow", "division", "full", "wrong", "broken"} {
		if told[word] < 20 {
			t.Error("too few of one kind:", told)
		}
	}
	if told["moved"] < 10000 || told["waits"] < 10000 {
		t.Error("too few of one kind:", told)
	}
}
