package scope

import "escarpment/api"

// checker looks at the procedures of a program that is right.
type checker struct {
	procs []api.Proc
	named set[string] // the procedures' names
}

// proc tells the first error of the procedure at that place, and its point.
func (c checker) proc(at int) (api.Errno, int) {
	p := c.procs[at]
	if c.named.first(p.Name) < at {
		return api.ErrTwice, -1
	}
	l := namesIn(p)
	names := setOf(l)
	if len(names) < len(l) {
		return api.ErrTwice, -1
	}
	for point, s := range points(p) {
		if e := c.stmt(s, names); e != api.OK {
			return e, point
		}
	}
	return api.OK, 0
}

// stmt looks at a statement itself, not at what is within it.
func (c checker) stmt(s api.Stmt, names set[string]) api.Errno {
	if s.Name != "" && !names.has(s.Name) || !areNamed(s.E, names) {
		return api.ErrName
	}
	for _, l := range s.Args {
		if !areNamed(l, names) {
			return api.ErrName
		}
	}
	if s.Kind == api.SCall {
		return c.call(s)
	}
	return api.OK
}

// call takes, of several procedures of one name, the first.
func (c checker) call(s api.Stmt) api.Errno {
	if !c.named.has(s.Proc) {
		return api.ErrName
	}
	called := c.procs[c.named.first(s.Proc)]
	if len(s.Args) != len(called.Params) || s.Name != "" && called.Result == "" {
		return api.ErrArity
	}
	return api.OK
}

// calls tells of each procedure which ones it calls; they must all be there.
func (c checker) calls() graph {
	g := make(graph, len(c.procs))
	for at, p := range c.procs {
		for _, s := range points(p) {
			if s.Kind == api.SCall {
				g[at] = append(g[at], c.named.first(s.Proc))
			}
		}
	}
	return g
}

func areNamed(l []api.Node, names set[string]) bool {
	for _, n := range l {
		if n.Kind == api.NVar && !names.has(n.Name) {
			return false
		}
	}
	return true
}

// namesIn tells the names of what p's statements may use.
func namesIn(p api.Proc) []string {
	var l []string
	l = append(l, p.Params...)
	if p.Result != "" {
		l = append(l, p.Result)
	}
	return append(l, p.Vars...)
}

func namesOfProcs(l []api.Proc) []string {
	names := make([]string, len(l))
	for at, p := range l {
		names[at] = p.Name
	}
	return names
}
