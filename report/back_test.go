package report_test

import (
	"math/rand"
	"slices"
	"strconv"
	"strings"
	"testing"

	"jetsam/fix"
	"jetsam/itv"
	"jetsam/outer"
	"jetsam/report"
	"jetsam/trans"
)

// told is what a result's words tell, read back.
type told struct {
	steps  int
	at     [][]place
	elems  []channel
	alarms []fix.Alarm
}

type place struct {
	never bool
	vars  []itv.Itv
}

type channel struct {
	many itv.Itv
	vals map[int]itv.Itv
}

// reader goes through lines; the first thing that is wrong fails the test.
type reader struct {
	t     *testing.T
	text  string
	lines []string
}

func (r *reader) fail(what string) {
	r.t.Helper()
	r.t.Fatalf("%s, ahead of %q of %q", what, r.lines, r.text)
}

// next tells the next line, if it begins so, without that.
func (r *reader) next(begin string) (string, bool) {
	if len(r.lines) == 0 || !strings.HasPrefix(r.lines[0], begin) {
		return "", false
	}
	rest := r.lines[0][len(begin):]
	r.lines = r.lines[1:]
	return rest, true
}

func (r *reader) number(word string) int {
	r.t.Helper()
	n, err := strconv.Atoi(word)
	if err != nil || strconv.Itoa(n) != word {
		r.fail("no number: " + word)
	}
	return n
}

func (r *reader) itv(words string) itv.Itv {
	r.t.Helper()
	switch words {
	case "none":
		return empty
	case "any":
		return itv.All()
	}
	lo, hi, two := strings.Cut(words, " to ")
	if !two {
		return only(r.number(lo))
	}
	i := between(r.number(lo), r.number(hi))
	if i.Lo >= i.Hi || i == itv.All() {
		r.fail("written otherwise: " + words)
	}
	return i
}

// all goes through a whole text: steps, processes, channels, alarms, and how many these are.
func (r *reader) all() told {
	r.t.Helper()
	var x told
	if !strings.HasSuffix(r.text, "\n") {
		r.fail("no line end at the end")
	}
	r.lines = strings.Split(strings.TrimSuffix(r.text, "\n"), "\n")
	steps, ok := r.next("steps ")
	if !ok {
		r.fail("no steps")
	}
	x.steps = r.number(steps)
	for {
		if _, ok := r.next("process " + strconv.Itoa(len(x.at))); !ok {
			break
		}
		x.at = append(x.at, r.places())
	}
	for {
		words, ok := r.next("channel " + strconv.Itoa(len(x.elems)) + ": ")
		if !ok {
			break
		}
		x.elems = append(x.elems, r.channel(words))
	}
	for len(r.lines) > 1 {
		x.alarms = append(x.alarms, r.alarm())
	}
	r.end(len(x.alarms))
	return x
}

func (r *reader) places() []place {
	r.t.Helper()
	var list []place
	for {
		words, ok := r.next("node " + strconv.Itoa(len(list)) + ": ")
		if !ok {
			return list
		}
		list = append(list, r.place(words))
	}
}

func (r *reader) place(words string) place {
	r.t.Helper()
	switch words {
	case "never":
		return place{never: true}
	case "nothing":
		return place{}
	}
	var x place
	for _, i := range strings.Split(words, ", ") {
		x.vars = append(x.vars, r.itv(i))
	}
	return x
}

func (r *reader) channel(words string) channel {
	r.t.Helper()
	parts := strings.Split(words, ", tag ")
	many, ok := strings.CutSuffix(parts[0], " messages")
	if !ok {
		r.fail("no messages: " + words)
	}
	x := channel{many: r.itv(many), vals: map[int]itv.Itv{}}
	last := -1
	for _, part := range parts[1:] {
		tag, i, _ := strings.Cut(part, ": ")
		at := r.number(tag)
		if at <= last || itv.Empty(r.itv(i)) {
			r.fail("no such tag, or not in order: " + words)
		}
		last, x.vals[at] = at, r.itv(i)
	}
	return x
}

func (r *reader) alarm() fix.Alarm {
	r.t.Helper()
	kinds := []string{"error", "failed assertion", "overflow", "division by zero", "full channel", "wrong tag", "broken rule"}
	words, _ := r.next("")
	kind, rest, _ := strings.Cut(words, " at process ")
	proc, edge, _ := strings.Cut(rest, " edge ")
	if !slices.Contains(kinds, kind) {
		r.fail("no kind: " + words)
	}
	return alarm(r.number(proc), r.number(edge), slices.Index(kinds, kind))
}

func (r *reader) end(alarms int) {
	r.t.Helper()
	want := strconv.Itoa(alarms) + " alarms"
	if alarms == 0 {
		want = "no alarm"
	}
	if !slices.Equal(r.lines, []string{want}) {
		r.fail("no such end: " + want)
	}
}

// alike: all that is empty reads alike.
func alike(a, b itv.Itv) bool {
	return a == b || a.Lo > a.Hi && b.Lo > b.Hi
}

func samePlace(x place, a trans.State) bool {
	if x.never || a.N.None {
		return x.never == a.N.None
	}
	return slices.EqualFunc(x.vars, a.N.I, alike)
}

func sameChannel(x channel, many itv.Itv, vals []itv.Itv) bool {
	there := 0
	for tag, i := range vals {
		if i.Lo > i.Hi {
			continue
		}
		there++
		if got, ok := x.vals[tag]; !ok || got != i {
			return false
		}
	}
	return there == len(x.vals) && alike(x.many, many)
}

func sameAlarm(x, a fix.Alarm) bool {
	if a.Kind < 1 || a.Kind > 6 {
		a.Kind = 0
	}
	return x == a
}

func wantTold(t *testing.T, x told, r outer.Result) {
	t.Helper()
	same := x.steps == r.Steps && len(x.at) == len(r.At) && len(x.elems) == len(r.Elems) && slices.EqualFunc(x.alarms, r.Alarms, sameAlarm)
	for proc := 0; same && proc < len(r.At); proc++ {
		same = slices.EqualFunc(x.at[proc], r.At[proc], samePlace)
	}
	for at := 0; same && at < len(r.Elems); at++ {
		same = sameChannel(x.elems[at], r.Elems[at].Len, r.Elems[at].Vals)
	}
	if !same {
		t.Fatal("read back:", x, "of", r)
	}
}

func TestP17_1_TextIsReadBack(t *testing.T) {
	random := rand.New(rand.NewSource(181))
	nodes, messages, alarms := 0, 0, map[int]int{}
	for range 4000 {
		r := anyResult(t, random)
		read := reader{t: t, text: report.Text(r)}
		wantTold(t, read.all(), r)
		for _, at := range r.At {
			nodes += len(at)
		}
		for _, e := range r.Elems {
			messages += len(e.Vals)
		}
		for _, a := range r.Alarms {
			alarms[a.Kind]++
		}
	}
	for kind := -1; kind <= 7; kind++ {
		if alarms[kind] < 300 {
			t.Error("too few of kind", kind, alarms)
		}
	}
	if nodes < 40000 || messages < 10000 {
		t.Error("too few:", nodes, messages)
	}
}

func TestP17_1_ItvAndAlarmAreReadBack(t *testing.T) {
	read := reader{t: t}
	for _, lo := range wild() {
		for _, hi := range wild() {
			if i := between(lo, hi); !alike(read.itv(report.Itv(i)), i) {
				t.Error(i, report.Itv(i))
			}
			for kind := -1; kind <= 7; kind++ {
				a := alarm(lo, hi, kind)
				read.lines = []string{report.Alarm(a)}
				if !sameAlarm(read.alarm(), a) {
					t.Error(a, report.Alarm(a))
				}
			}
		}
	}
}
