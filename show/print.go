package show

import (
	"strconv"
	"strings"

	"escarpment/api"
)

// writer puts tokens behind those that it was given ahead.
type writer func(tokens ...string)

// newWriter tells a writer, and what tells the text that it has written.
func newWriter() (writer, func() (string, api.Errno)) {
	var text strings.Builder
	gap := ""
	long := false
	write := func(tokens ...string) {
		for _, token := range tokens {
			// A text too long is no longer kept: it may be far longer.
			long = long || text.Len()+len(gap)+len(token) > api.MaxText
			if long {
				return
			}
			text.WriteString(gap + token)
			gap = " "
		}
	}
	told := func() (string, api.Errno) {
		if long {
			return "", api.ErrLong
		}
		return text.String(), api.OK
	}
	return write, told
}

func (w writer) prog(p api.Prog) {
	for _, proc := range p.Procs {
		w.proc(proc)
	}
}

func (w writer) proc(p api.Proc) {
	w("proc", p.Name)
	listed(w, p.Params, func(name string) { w(name) })
	if p.Result != "" {
		w("->", p.Result)
	}
	w("{")
	for _, name := range p.Vars {
		w("var", name, ";")
	}
	w.stmts(p.Body)
	w("}")
}

// listed writes what stands in ( and ), parted by commas.
func listed[T any](w writer, l []T, one func(T)) {
	w("(")
	for i, item := range l {
		if i > 0 {
			w(",")
		}
		one(item)
	}
	w(")")
}

func (w writer) block(l []api.Stmt) {
	w("{")
	w.stmts(l)
	w("}")
}

func (w writer) stmts(l []api.Stmt) {
	for _, s := range l {
		w.stmt(s)
	}
}

func (w writer) stmt(s api.Stmt) {
	switch s.Kind {
	case api.SIf:
		w("if")
		w.nodes(s.E)
		w.block(s.Body)
		if len(s.Else) > 0 {
			w("else")
			w.block(s.Else)
		}
	case api.SWhile:
		w("while")
		w.nodes(s.E)
		w.block(s.Body)
	case api.SEither:
		w("either")
		w.block(s.Body)
		w("or")
		w.block(s.Else)
	default:
		w.plain(s)
		w(";")
	}
}

// plain writes a statement without blocks, but for its semicolon.
func (w writer) plain(s api.Stmt) {
	switch s.Kind {
	case api.SSet:
		w(s.Name, "=")
		w.nodes(s.E)
	case api.SHavoc:
		w("havoc", s.Name)
	case api.SAssume:
		w("assume")
		w.nodes(s.E)
	case api.SAssert:
		w("assert")
		w.nodes(s.E)
	case api.SCall:
		if s.Name != "" {
			w(s.Name, "=")
		}
		w(s.Proc)
		listed(w, s.Args, w.nodes)
	case api.SSkip:
		w("skip")
	}
}

func (w writer) nodes(l []api.Node) { w.node(l, len(l)-1) }

// node writes what has its root at a place of l.
func (w writer) node(l []api.Node, at int) {
	n := l[at]
	k := kindOf(n)
	if k.kids == 2 {
		w.operand(l, n.A)
	}
	w(tokenOf(n))
	switch k.kids {
	case 1:
		w.operand(l, n.A)
	case 2:
		w.operand(l, n.B)
	}
}

func tokenOf(n api.Node) string {
	switch n.Kind {
	case api.NNum:
		return strconv.Itoa(n.Num)
	case api.NVar:
		return n.Name
	}
	return kindOf(n).text
}

func (w writer) operand(l []api.Node, at int) {
	k := kindOf(l[at])
	switch {
	case !k.inBrackets():
		w.node(l, at)
	case k.is == condition:
		w("[")
		w.node(l, at)
		w("]")
	default:
		w("(")
		w.node(l, at)
		w(")")
	}
}
