package check

import (
	"slices"

	"jetsam/api"
	"jetsam/ast"
)

// bindChans tells all channels with their ends and rules. All ends are looked
// at ahead of any rule.
func bindChans(s ast.System) ([]Chan, api.Errno) {
	var chans []Chan
	for _, c := range s.Chans {
		from, to := procAt(s.Procs, c.From), procAt(s.Procs, c.To)
		if from < 0 || to < 0 {
			return nil, api.ErrName
		}
		if from == to {
			return nil, api.ErrEnd
		}
		chans = append(chans, Chan{Kind: c.Kind, Size: c.Size, From: from, To: to, Tags: len(c.Tags)})
	}
	for _, r := range s.Rules {
		at := chanAt(s.Chans, r.Chan)
		if at < 0 {
			return nil, api.ErrName
		}
		if len(chans[at].Rule) > 0 {
			return nil, api.ErrTwice
		}
		rows, err := bindRule(r, s.Chans[at].Tags)
		if err != api.OK {
			return nil, err
		}
		chans[at].Rule = rows
	}
	return chans, api.OK
}

// bindRule tells where a rule goes, by state and tag; it has one state at
// least, for a rule without moves is another thing than none.
func bindRule(r ast.Rule, tags []string) ([][]int, api.Errno) {
	rows := [][]int{noMoves(len(tags))}
	for _, m := range r.Moves {
		tag := slices.Index(tags, m.Tag)
		if tag < 0 {
			return nil, api.ErrName
		}
		if m.From >= api.MaxStates || m.To >= api.MaxStates {
			return nil, api.ErrState
		}
		for len(rows) <= max(m.From, m.To) {
			rows = append(rows, noMoves(len(tags)))
		}
		if rows[m.From][tag] >= 0 {
			return nil, api.ErrTwice
		}
		rows[m.From][tag] = m.To
	}
	return rows, api.OK
}

// noMoves: a state's row, by so many tags.
func noMoves(tags int) []int {
	return slices.Repeat([]int{-1}, tags)
}
