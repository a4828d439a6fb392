package step_test

import (
	"fmt"
	"math/rand"
	"reflect"
	"slices"
	"testing"

	"jetsam/api"
	"jetsam/check"
	"jetsam/conf"
	"jetsam/sample"
	"jetsam/step"
)

// roomy tells the same with spare room behind each list, in which 99 stands.
func roomy(c conf.Conf) conf.Conf {
	out := conf.Conf{At: append(c.At, 99)[:len(c.At)], States: append(c.States, 99)[:len(c.States)]}
	for _, vars := range c.Vars {
		out.Vars = append(out.Vars, append(vars, 99)[:len(vars)])
	}
	for _, queue := range c.Queues {
		out.Queues = append(out.Queues, append(queue, conf.Msg{Tag: 99})[:len(queue)])
	}
	return out
}

// isRoomy: is all the spare room as it was?
func isRoomy(c conf.Conf) bool {
	is := func(list []int) bool { return list[:len(list)+1][len(list)] == 99 }
	for _, vars := range c.Vars {
		if !is(vars) {
			return false
		}
	}
	for _, queue := range c.Queues {
		if queue[:len(queue)+1][len(queue)] != (conf.Msg{Tag: 99}) {
			return false
		}
	}
	return is(c.At) && is(c.States)
}

func TestP7_3_StepChangesAndSharesNothing(t *testing.T) {
	random := rand.New(rand.NewSource(74))
	told := map[int]int{}
	for range 400 {
		s, _ := lively(random)
		before := fmt.Sprint(s)
		for range 20 {
			plain := sample.Conf(s, random.Intn)
			c := roomy(conf.Copy(plain))
			p := randomPick(random, len(s.Graphs))
			behind, done, err := step.Step(s, c, p)
			again, _, _ := step.Step(s, c, p)
			if err != api.OK || !same(c, plain) || !isRoomy(c) {
				t.Fatal("changed", plain, c, p, err)
			}
			if !same(behind, again) || !sample.Apart(c, behind, again) {
				t.Fatal("shared memory", plain, p, done)
			}
			told[done.Kind]++
		}
		if before != fmt.Sprint(s) {
			t.Fatal("the system was changed", s)
		}
	}
	if len(told) != 7 {
		t.Error("not of all kinds:", told)
	}
}

func TestP7_3_RunChangesAndSharesNothing(t *testing.T) {
	for _, text := range []string{pairText, twoText, "proc p { }", "proc p { var x ; x = 1 ; x = x / 0 ; }"} {
		s := system(t, text)
		script := append(picks("0110100110101101001a0b01"), step.Pick{Proc: 99})[:24]
		kept := slices.Clone(script)
		all, done, err := step.Run(s, script)
		again, _, _ := step.Run(s, script)
		if err != api.OK || !slices.Equal(script, kept) || script[:25][24] != (step.Pick{Proc: 99}) {
			t.Error("the script was changed:", text, err)
		}
		if !reflect.DeepEqual(s, system(t, text)) {
			t.Error("the system was changed:", text)
		}
		words := fmt.Sprint(all)
		if words != fmt.Sprint(again) {
			t.Error("not the same again:", text)
		}
		if !sample.Apart(slices.Concat(all, again)...) {
			t.Error("shared memory:", text)
		}
		if later, now, _ := step.Run(s, script); fmt.Sprint(later) != words || now != done {
			t.Error("not the same later:", text)
		}
	}
}

func TestP7_3_EvalChangesNothing(t *testing.T) {
	e, c := expr(t, "( a + 1 ) * - b"), comparison(t, "a / b <= b % a")
	vars := append([]int{5, 6}, 99)[:2]
	step.Eval(e, vars)
	step.Holds(c, vars)
	if !reflect.DeepEqual(e, expr(t, "( a + 1 ) * - b")) || !reflect.DeepEqual(c, comparison(t, "a / b <= b % a")) {
		t.Error("changed:", e, c)
	}
	if !slices.Equal(vars[:3], []int{5, 6, 99}) {
		t.Error("changed:", vars[:3])
	}
	kids := []check.Expr{{Kind: 1, Num: 3}, {Kind: 99}}
	step.Eval(check.Expr{Kind: 3, Kids: kids[:1]}, nil)
	if kids[0].Num != 3 || kids[1].Kind != 99 {
		t.Error("changed:", kids)
	}
}
