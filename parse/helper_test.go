package parse

import (
	"fmt"
	"math/rand"
	"strconv"
	"strings"
	"testing"

	"escarpment/api"
	"escarpment/lex"
)

// inside is a program of those statements alone.
func inside(stmts string) string { return "proc m ( ) { " + stmts + " }" }

// brief is what is shown of a text.
func brief(s string) string {
	if len(s) > 200 {
		s = s[:100] + " .. " + s[len(s)-100:]
	}
	return strconv.Quote(s)
}

// told is a program as text; a nil list and an empty one are alike in it.
func told(p api.Prog) string { return fmt.Sprintf("%+v", p) }

// programIs holds Prog of s against a program.
func programIs(t *testing.T, promise, s string, want api.Prog) {
	t.Helper()
	got, e, at := Prog(s)
	if e != api.OK || at != 0 || told(got) != told(want) {
		t.Errorf("%s: Prog of %s: %v %v\n%s, want\n%s", promise, brief(s), e, at, told(got), told(want))
	}
}

// bodyIs holds the body that Prog makes of statements against others.
func bodyIs(t *testing.T, stmts string, want ...api.Stmt) {
	t.Helper()
	programIs(t, "8.2", inside(stmts), api.Prog{Procs: []api.Proc{{Name: "m", Body: want}}})
}

// exprIs and condIs hold the nodes of an expression, of a condition, against others.
func exprIs(t *testing.T, s string, want ...api.Node) {
	t.Helper()
	bodyIs(t, "y = "+s+" ;", api.Stmt{Kind: api.SSet, Name: "y", E: want})
	bodyIs(t, "f ( "+s+" ) ;", api.Stmt{Kind: api.SCall, Proc: "f", Args: [][]api.Node{want}})
}

func condIs(t *testing.T, s string, want ...api.Node) {
	t.Helper()
	bodyIs(t, "assume "+s+" ;", api.Stmt{Kind: api.SAssume, E: want})
	bodyIs(t, "assert "+s+" ;", api.Stmt{Kind: api.SAssert, E: want})
	bodyIs(t, "if "+s+" { }", api.Stmt{Kind: api.SIf, E: want})
	bodyIs(t, "while "+s+" { }", api.Stmt{Kind: api.SWhile, E: want})
}

// isRefused holds Prog of s against an error and its place; no program may stand beside them.
func isRefused(t *testing.T, s string, want api.Errno, place int) {
	t.Helper()
	if p, e, at := Prog(s); e != want || at != place || told(p) != told(api.Prog{}) {
		t.Errorf("8.1: Prog of %s: %v at %v, want %v at %v", brief(s), e, at, want, place)
	}
}

// refusedAt is isRefused at the mark @, which is taken away.
func refusedAt(t *testing.T, s string, want api.Errno) {
	t.Helper()
	isRefused(t, strings.Replace(s, "@", "", 1), want, strings.Index(s, "@"))
}

func isTaken(t *testing.T, s string) {
	t.Helper()
	if p, e, at := Prog(s); e != api.OK || at != 0 || len(p.Procs) == 0 {
		t.Errorf("8.1: Prog of %s: %v at %v, want a program", brief(s), e, at)
	}
}

// Nodes.
func number(n int) api.Node           { return api.Node{Kind: api.NNum, Num: n, A: -1, B: -1} }
func variable(s string) api.Node      { return api.Node{Kind: api.NVar, Name: s, A: -1, B: -1} }
func leaf(kind int) api.Node          { return api.Node{Kind: kind, A: -1, B: -1} }
func above(kind, a int) api.Node      { return api.Node{Kind: kind, A: a, B: -1} }
func between(kind, a, b int) api.Node { return api.Node{Kind: kind, A: a, B: b} }

// shape is an expression, a condition, by its kids themselves.
type shape struct {
	leaf api.Node // without its kids' places
	kids []*shape
}

// nodes tells s as 8.2 has it, behind l.
func (s *shape) nodes(l []api.Node) []api.Node {
	places := [2]int{-1, -1}
	for i, kid := range s.kids {
		l = kid.nodes(l)
		places[i] = len(l) - 1
	}
	n := s.leaf
	n.A, n.B = places[0], places[1]
	return append(l, n)
}

// rank tells how fast s holds together, and what ranks its kids need to stand there without brackets.
func (s *shape) rank() (int, [2]int) {
	switch s.leaf.Kind {
	case api.NOr:
		return 1, [2]int{1, 2}
	case api.NAnd:
		return 2, [2]int{2, 3}
	case api.NNot:
		return 3, [2]int{3}
	case api.NEq, api.NNe, api.NLt, api.NLe, api.NGt, api.NGe:
		return 3, [2]int{4, 4}
	case api.NTrue, api.NFalse, api.NPick:
		return 3, [2]int{}
	case api.NAdd, api.NSub:
		return 4, [2]int{4, 5}
	case api.NMul, api.NDiv, api.NMod:
		return 5, [2]int{5, 6}
	}
	return 6, [2]int{6}
}

// words tells s's tokens: with brackets where they are needed, and where more says so.
func (s *shape) words(more func() bool) string {
	_, needs := s.rank()
	var parts []string
	for i, kid := range s.kids {
		parts = append(parts, kid.within(needs[i], more))
	}
	switch text := texts()[s.leaf.Kind]; {
	case s.leaf.Kind == api.NNum:
		return fmt.Sprint(s.leaf.Num)
	case s.leaf.Kind == api.NVar:
		return s.leaf.Name
	case len(parts) < 2:
		return strings.TrimSpace(text + " " + strings.Join(parts, ""))
	default:
		return strings.Join(parts, " "+text+" ")
	}
}

func (s *shape) within(need int, more func() bool) string {
	rank, _ := s.rank()
	for text := s.words(more); ; rank = 6 {
		switch brackets := rank < need || more(); {
		case !brackets:
			return text
		case s.leaf.Kind >= api.NTrue:
			text = "[ " + text + " ]"
		default:
			text = "( " + text + " )"
		}
	}
}

func texts() map[int]string {
	return map[int]string{api.NNeg: "-", api.NAdd: "+", api.NSub: "-", api.NMul: "*", api.NDiv: "/", api.NMod: "%", api.NTrue: "true", api.NFalse: "false", api.NPick: "*",
		api.NEq: "==", api.NNe: "!=", api.NLt: "<", api.NLe: "<=", api.NGt: ">", api.NGe: ">=", api.NNot: "not", api.NAnd: "and", api.NOr: "or"}
}

func never() bool { return false }

// shapes tells all expressions, or all conditions, of so many nodes.
func shapes(conditions bool, size int) []*shape {
	var l []*shape
	if size == 1 && !conditions {
		return []*shape{{leaf: variable("x")}, {leaf: number(7)}}
	}
	if size == 1 {
		return []*shape{{leaf: leaf(api.NTrue)}, {leaf: leaf(api.NFalse)}, {leaf: leaf(api.NPick)}}
	}
	prefix, joints, compares := api.NNeg, []int{api.NAdd, api.NSub, api.NMul, api.NDiv, api.NMod}, []int(nil)
	if conditions {
		prefix, joints, compares = api.NNot, []int{api.NAnd, api.NOr}, []int{api.NLt}
	}
	for _, kid := range shapes(conditions, size-1) {
		l = append(l, &shape{leaf(prefix), []*shape{kid}})
	}
	for n := 1; n < size-1; n++ {
		l = append(l, joined(joints, shapes(conditions, n), shapes(conditions, size-1-n))...)
		if conditions {
			l = append(l, joined(compares, shapes(false, n), shapes(false, size-1-n))...)
		}
	}
	return l
}

func joined(kinds []int, left, right []*shape) []*shape {
	var l []*shape
	for _, kind := range kinds {
		for _, a := range left {
			for _, b := range right {
				l = append(l, &shape{leaf(kind), []*shape{a, b}})
			}
		}
	}
	return l
}

// maker makes programs, and their tokens, by chance.
type maker struct{ *rand.Rand }

func (m maker) more() bool { return m.Intn(8) == 0 }

func (m maker) one(kinds ...int) int { return kinds[m.Intn(len(kinds))] }

func (m maker) name() string {
	return []string{"x", "y", "i", "n_1", "orx", "proc1", "abcdefghijklmnop"}[m.Intn(7)]
}

func (m maker) expr(fuel int) *shape {
	switch {
	case fuel == 0 && m.Intn(2) == 0:
		return &shape{leaf: number(m.one(0, 1, 42, 999999999))}
	case fuel == 0:
		return &shape{leaf: variable(m.name())}
	case m.Intn(4) == 0:
		return &shape{leaf(api.NNeg), []*shape{m.expr(fuel - 1)}}
	}
	kind := m.one(api.NAdd, api.NSub, api.NMul, api.NDiv, api.NMod)
	return &shape{leaf(kind), []*shape{m.expr(m.Intn(fuel)), m.expr(m.Intn(fuel))}}
}

func (m maker) cond(fuel int) *shape {
	switch {
	case fuel == 0:
		return &shape{leaf: leaf(m.one(api.NTrue, api.NFalse, api.NPick))}
	case m.Intn(4) == 0:
		return &shape{leaf(api.NNot), []*shape{m.cond(fuel - 1)}}
	case m.Intn(3) == 0:
		kind := m.one(api.NEq, api.NNe, api.NLt, api.NLe, api.NGt, api.NGe)
		return &shape{leaf(kind), []*shape{m.expr(m.Intn(fuel)), m.expr(m.Intn(fuel))}}
	}
	return &shape{leaf(m.one(api.NAnd, api.NOr)), []*shape{m.cond(m.Intn(fuel)), m.cond(m.Intn(fuel))}}
}

// exprWords and condWords are nodes and their tokens.
func (m maker) exprWords() ([]api.Node, string) {
	s := m.expr(m.Intn(5))
	return s.nodes(nil), s.within(0, m.more)
}

func (m maker) condWords() ([]api.Node, string) {
	s := m.cond(m.Intn(5))
	return s.nodes(nil), s.within(0, m.more)
}

func (m maker) call(name string) (api.Stmt, string) {
	s := api.Stmt{Kind: api.SCall, Name: name, Proc: m.name()}
	var parts []string
	for range m.Intn(4) {
		e, words := m.exprWords()
		s.Args, parts = append(s.Args, e), append(parts, words)
	}
	return s, s.Proc + " ( " + strings.Join(parts, " , ") + " ) ;"
}

func (m maker) stmt(fuel int) (api.Stmt, string) {
	kinds := []int{api.SSet, api.SHavoc, api.SAssume, api.SAssert, api.SCall, api.SSkip, api.SIf, api.SWhile, api.SEither}
	if fuel == 0 {
		kinds = kinds[:6]
	}
	s := api.Stmt{Kind: m.one(kinds...)}
	var words string
	switch s.Kind {
	case api.SSet:
		s.Name = m.name()
		s.E, words = m.exprWords()
		return s, s.Name + " = " + words + " ;"
	case api.SHavoc:
		s.Name = m.name()
		return s, "havoc " + s.Name + " ;"
	case api.SAssume, api.SAssert:
		s.E, words = m.condWords()
		return s, map[int]string{api.SAssume: "assume ", api.SAssert: "assert "}[s.Kind] + words + " ;"
	case api.SCall:
		if m.Intn(2) == 0 {
			return m.call("")
		}
		name := m.name()
		s, words = m.call(name)
		return s, name + " = " + words
	case api.SSkip:
		return s, "skip ;"
	}
	return m.blocks(s, fuel)
}

func (m maker) blocks(s api.Stmt, fuel int) (api.Stmt, string) {
	var cond, body, other string
	s.Body, body = m.stmts(fuel - 1)
	if s.Kind == api.SEither {
		s.Else, other = m.stmts(fuel - 1)
		return s, "either {" + body + " } or {" + other + " }"
	}
	s.E, cond = m.condWords()
	if s.Kind == api.SWhile {
		return s, "while " + cond + " {" + body + " }"
	}
	words := "if " + cond + " {" + body + " }"
	if m.Intn(2) == 0 {
		return s, words
	}
	s.Else, other = m.stmts(fuel - 1)
	return s, words + " else {" + other + " }"
}

func (m maker) stmts(fuel int) ([]api.Stmt, string) {
	var l []api.Stmt
	var all string
	for range m.Intn(3) {
		s, words := m.stmt(fuel)
		l, all = append(l, s), all+" "+words
	}
	return l, all
}

func (m maker) names(most int) []string {
	var l []string
	for range m.Intn(most + 1) {
		l = append(l, m.name())
	}
	return l
}

func (m maker) proc() (api.Proc, string) {
	p := api.Proc{Name: m.name(), Params: m.names(3), Vars: m.names(2)}
	words := "proc " + p.Name + " ( " + strings.Join(p.Params, " , ") + " ) "
	if m.Intn(2) == 0 {
		p.Result = m.name()
		words += "-> " + p.Result + " "
	}
	words += "{"
	for _, v := range p.Vars {
		words += " var " + v + " ;"
	}
	body, rest := m.stmts(m.Intn(4))
	p.Body = body
	return p, words + rest + " }"
}

// prog tells a program and its tokens.
func (m maker) prog() (api.Prog, []string) {
	var p api.Prog
	var words []string
	for range 1 + m.Intn(3) {
		proc, text := m.proc()
		p.Procs, words = append(p.Procs, proc), append(words, strings.Fields(text)...)
	}
	return p, words
}

// loose joins tokens with this or that between them, and with nothing where they stay two.
func (m maker) loose(words []string) string {
	var s strings.Builder
	for i, word := range words {
		gap := []string{" ", "\n", "\t\r\n ", " # x = ( [\n", "#\n"}[m.Intn(5)]
		if i > 0 && m.Intn(2) == 0 {
			if two, _, _ := lex.Lex(words[i-1] + word); len(two) == 3 && two[0].Text == words[i-1] {
				gap = ""
			}
		}
		s.WriteString(gap + word)
	}
	return s.String()
}
