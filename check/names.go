package check

import (
	"slices"

	"jetsam/api"
	"jetsam/ast"
)

// declared looks at how many channels and processes there are, and at the
// names and counts that they declare, but not at a process's own.
func declared(s ast.System) api.Errno {
	if len(s.Chans) > api.MaxChans {
		return api.ErrCount
	}
	for i, c := range s.Chans {
		if err := chanDeclared(s.Chans[:i], c); err != api.OK {
			return err
		}
	}
	if len(s.Procs) < 1 || len(s.Procs) > api.MaxProcs {
		return api.ErrCount
	}
	for i, p := range s.Procs {
		if procAt(s.Procs[:i], p.Name) >= 0 {
			return api.ErrTwice
		}
	}
	return api.OK
}

func chanDeclared(ahead []ast.Chan, c ast.Chan) api.Errno {
	switch {
	case chanAt(ahead, c.Name) >= 0:
		return api.ErrTwice
	case c.Size < 1 || c.Size > api.MaxSize || len(c.Tags) > api.MaxTags:
		return api.ErrCount
	case anyTwice(c.Tags):
		return api.ErrTwice
	}
	return api.OK
}

// anyTwice: of few names.
func anyTwice(names []string) bool {
	for i, name := range names {
		if slices.Contains(names[:i], name) {
			return true
		}
	}
	return false
}

// chanAt tells a channel's place by its name, -1 if there is none.
func chanAt(chans []ast.Chan, name string) int {
	return slices.IndexFunc(chans, func(c ast.Chan) bool { return c.Name == name })
}

// procAt tells a process's place by its name, -1 if there is none.
func procAt(procs []ast.Proc, name string) int {
	return slices.IndexFunc(procs, func(p ast.Proc) bool { return p.Name == name })
}
