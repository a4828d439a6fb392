package shell

import (
	"strconv"
	"strings"

	"jetsam/conf"
	"jetsam/fix"
	"jetsam/flow"
	"jetsam/report"
	"jetsam/step"
)

// Run tells what comes of the system of a text, if its processes do their steps
// as the script says.
func Run(text string, script string) string {
	s, fault := system(text)
	if fault != "" {
		return fault
	}
	var lines strings.Builder
	run(&lines, s, script)
	return lines.String()
}

func run(lines *strings.Builder, s flow.Sys, script string) {
	c, _ := conf.Start(s)
	for at := range len(script) {
		p, ok := pick(script[at], at)
		if !ok {
			continue
		}
		next, done, _ := step.Step(s, c, p)
		if done.Kind != 0 {
			lines.WriteString(report.Alarm(fix.Alarm{Proc: done.Proc, Edge: done.Edge, Kind: done.Kind}) + "\n")
			return
		}
		if done.Moved {
			lines.WriteString("moved\n")
		} else {
			lines.WriteString("waits\n")
		}
		c = next
	}
	lines.WriteString(nodes(c))
}

// pick tells who does a step by a sign of a script; false, if it is no pick.
// The sign's place in the script is what the process is given.
func pick(sign byte, at int) (step.Pick, bool) {
	switch {
	case sign >= '0' && sign <= '3':
		return step.Pick{Proc: int(sign - '0'), Input: at}, true
	case sign >= 'a' && sign <= 'd':
		return step.Pick{Proc: int(sign - 'a'), Lose: true, Input: at}, true
	}
	return step.Pick{}, false
}

func nodes(c conf.Conf) string {
	var line strings.Builder
	line.WriteString("at")
	for _, node := range c.At {
		line.WriteString(" " + strconv.Itoa(node))
	}
	line.WriteByte('\n')
	return line.String()
}
