package show

import (
	"fmt"
	"math/rand"
	"reflect"
	"strconv"
	"strings"
	"testing"

	"escarpment/api"
	"escarpment/parse"
)

// told is anything of a program as text, each part apart from the next; a nil list and an empty one are alike in it.
func told(a any) string { return toldValue(reflect.ValueOf(a)) }

func toldValue(v reflect.Value) string {
	var parts []string
	switch v.Kind() {
	case reflect.Struct:
		for i := range v.NumField() {
			parts = append(parts, toldValue(v.Field(i)))
		}
	case reflect.Slice:
		for i := range v.Len() {
			parts = append(parts, toldValue(v.Index(i)))
		}
	case reflect.String:
		return strconv.Quote(v.String())
	default:
		return fmt.Sprint(v.Int())
	}
	return "{" + strings.Join(parts, " ") + "}"
}

// brief is what is shown of a text.
func brief(s string) string {
	if len(s) > 400 {
		s = s[:200] + " .. " + s[len(s)-200:]
	}
	return s
}

// parsed is a source's program, new each time.
func parsed(s string) api.Prog {
	p, e, at := parse.Prog(s)
	if e != api.OK {
		panic(fmt.Sprint("no program: ", brief(s), " ", e, " at ", at))
	}
	return p
}

// Programs of one procedure, of one statement, of one expression, of one condition.
func procs(l ...api.Proc) api.Prog     { return api.Prog{Procs: l} }
func body(l ...api.Stmt) api.Prog      { return procs(api.Proc{Name: "m", Body: l}) }
func setTo(l ...api.Node) api.Prog     { return body(api.Stmt{Kind: api.SSet, Name: "x", E: l}) }
func assuming(l ...api.Node) api.Prog  { return body(api.Stmt{Kind: api.SAssume, E: l}) }
func passing(l ...[]api.Node) api.Prog { return body(api.Stmt{Kind: api.SCall, Proc: "f", Args: l}) }

// Nodes.
func number(n int) api.Node           { return api.Node{Kind: api.NNum, Num: n, A: -1, B: -1} }
func variable(s string) api.Node      { return api.Node{Kind: api.NVar, Name: s, A: -1, B: -1} }
func leaf(kind int) api.Node          { return api.Node{Kind: kind, A: -1, B: -1} }
func above(kind, a int) api.Node      { return api.Node{Kind: kind, A: a, B: -1} }
func between(kind, a, b int) api.Node { return api.Node{Kind: kind, A: a, B: b} }

func isRight(t *testing.T, p api.Prog) {
	t.Helper()
	if !Right(p) {
		t.Errorf("9.1: Right is false of %s", brief(told(p)))
	}
	if s, e := Print(p); e != api.OK && e != api.ErrLong || (e == api.OK) == (s == "") {
		t.Errorf("9.1: Print of %s: %v %q", brief(told(p)), e, brief(s))
	}
}

func isWrong(t *testing.T, p api.Prog) {
	t.Helper()
	if Right(p) {
		t.Errorf("9.1: Right is true of %s", brief(told(p)))
	}
	if s, e := Print(p); e != api.ErrArg || s != "" {
		t.Errorf("9.1: Print of %s: %v %q", brief(told(p)), e, brief(s))
	}
}

// printsAs holds Print of p against a text, and what that is parsed as against p.
func printsAs(t *testing.T, p api.Prog, want string) {
	t.Helper()
	isRight(t, p)
	s, e := Print(p)
	if e != api.OK || s != want {
		t.Errorf("9.1: %v %s, want\n%s", e, brief(s), brief(want))
		return
	}
	if q, e, at := parse.Prog(s); e != api.OK || told(q) != told(p) || !Same(p, q) {
		t.Errorf("9.3: %s is parsed as another: %v at %v", brief(s), e, at)
	}
}

// isAsParsed holds Right and Print of any p against layer 8: whatever no text is parsed to is not parsed from p's own.
func isAsParsed(t *testing.T, p api.Prog) {
	t.Helper()
	s := spelling{}.prog(p)
	if len(s) > api.MaxText {
		panic("too long to be parsed")
	}
	q, e, _ := parse.Prog(s)
	if e == api.OK && told(q) == told(p) {
		printsAs(t, p, s)
	} else {
		isWrong(t, p)
	}
}

// spelling is chapter 9's text, of programs that may be wrong, too: what has no text is a ?, which is no token.
type spelling struct {
	more func() bool // where it is told: are more brackets put there?
}

func (s spelling) prog(p api.Prog) string {
	var words []string
	for _, proc := range p.Procs {
		words = append(words, "proc", proc.Name, "(", strings.Join(proc.Params, " , "), ")")
		if proc.Result != "" {
			words = append(words, "->", proc.Result)
		}
		words = append(words, "{")
		for _, name := range proc.Vars {
			words = append(words, "var", name, ";")
		}
		words = append(words, s.stmts(proc.Body), "}")
	}
	return joined(words...)
}

// joined leaves out what is empty.
func joined(words ...string) string {
	var l []string
	for _, word := range words {
		if word != "" {
			l = append(l, word)
		}
	}
	return strings.Join(l, " ")
}

func (s spelling) block(l []api.Stmt) string { return joined("{", s.stmts(l), "}") }

func (s spelling) stmts(l []api.Stmt) string {
	var words []string
	for _, one := range l {
		words = append(words, s.stmt(one))
	}
	return joined(words...)
}

func (s spelling) stmt(a api.Stmt) string {
	e := func() string { return s.root(a.E) }
	switch a.Kind {
	case api.SSet:
		return joined(a.Name, "=", e(), ";")
	case api.SHavoc:
		return joined("havoc", a.Name, ";")
	case api.SAssume:
		return joined("assume", e(), ";")
	case api.SAssert:
		return joined("assert", e(), ";")
	case api.SIf:
		if len(a.Else) == 0 {
			return joined("if", e(), s.block(a.Body))
		}
		return joined("if", e(), s.block(a.Body), "else", s.block(a.Else))
	case api.SWhile:
		return joined("while", e(), s.block(a.Body))
	case api.SEither:
		return joined("either", s.block(a.Body), "or", s.block(a.Else))
	case api.SCall:
		var args []string
		for _, arg := range a.Args {
			args = append(args, s.root(arg))
		}
		if a.Name != "" {
			return joined(a.Name, "=", a.Proc, "(", strings.Join(args, " , "), ")", ";")
		}
		return joined(a.Proc, "(", strings.Join(args, " , "), ")", ";")
	case api.SSkip:
		return "skip ;"
	}
	return "?"
}

// joints are the operators that have two operands.
func joints() map[int]string {
	return map[int]string{api.NAdd: "+", api.NSub: "-", api.NMul: "*", api.NDiv: "/", api.NMod: "%", api.NAnd: "and", api.NOr: "or",
		api.NEq: "==", api.NNe: "!=", api.NLt: "<", api.NLe: "<=", api.NGt: ">", api.NGe: ">="}
}

func (s spelling) root(l []api.Node) string {
	fuel := 200
	return s.node(l, len(l)-1, &fuel)
}

func (s spelling) node(l []api.Node, at int, fuel *int) string {
	*fuel--
	if at < 0 || at >= len(l) || *fuel < 0 {
		return "?"
	}
	switch n := l[at]; n.Kind {
	case api.NNum:
		return fmt.Sprint(n.Num)
	case api.NVar:
		return n.Name
	case api.NNeg:
		return joined("-", s.operand(l, n.A, fuel, "(", ")"))
	case api.NTrue:
		return "true"
	case api.NFalse:
		return "false"
	case api.NPick:
		return "*"
	case api.NNot:
		return joined("not", s.operand(l, n.A, fuel, "[", "]"))
	case api.NAnd, api.NOr:
		return joined(s.operand(l, n.A, fuel, "[", "]"), joints()[n.Kind], s.operand(l, n.B, fuel, "[", "]"))
	default:
		if joints()[n.Kind] == "" {
			return "?"
		}
		return joined(s.operand(l, n.A, fuel, "(", ")"), joints()[n.Kind], s.operand(l, n.B, fuel, "(", ")"))
	}
}

func (s spelling) operand(l []api.Node, at int, fuel *int, begin, end string) string {
	text := s.node(l, at, fuel)
	if s.more != nil && s.more() {
		text = joined(begin, text, end)
	}
	if at < 0 || at >= len(l) {
		return text
	}
	switch l[at].Kind {
	case api.NNum, api.NVar, api.NTrue, api.NFalse, api.NPick, api.NEq, api.NNe, api.NLt, api.NLe, api.NGt, api.NGe:
		return text
	}
	return joined(begin, text, end)
}

// maker makes programs by chance.
type maker struct{ *rand.Rand }

func (m maker) one(kinds ...int) int { return kinds[m.Intn(len(kinds))] }

func (m maker) name() string {
	return []string{"x", "y", "i", "n_1", "orx", "proc1", "abcdefghijklmnop"}[m.Intn(7)]
}

func (m maker) names(most int) []string {
	var l []string
	for range m.Intn(most + 1) {
		l = append(l, m.name())
	}
	return l
}

// expr and cond put a tree behind l.
func (m maker) expr(l []api.Node, fuel int) []api.Node {
	switch {
	case fuel == 0 && m.Intn(2) == 0:
		return append(l, number(m.one(0, 1, 42, 999999999)))
	case fuel == 0:
		return append(l, variable(m.name()))
	case m.Intn(4) == 0:
		return m.over(m.expr(l, fuel-1), api.NNeg)
	}
	return m.pair(l, fuel, m.expr, api.NAdd, api.NSub, api.NMul, api.NDiv, api.NMod)
}

func (m maker) cond(l []api.Node, fuel int) []api.Node {
	switch {
	case fuel == 0:
		return append(l, leaf(m.one(api.NTrue, api.NFalse, api.NPick)))
	case m.Intn(4) == 0:
		return m.over(m.cond(l, fuel-1), api.NNot)
	case m.Intn(3) == 0:
		return m.pair(l, fuel, m.expr, api.NEq, api.NNe, api.NLt, api.NLe, api.NGt, api.NGe)
	}
	return m.pair(l, fuel, m.cond, api.NAnd, api.NOr)
}

func (m maker) over(l []api.Node, kind int) []api.Node { return append(l, above(kind, len(l)-1)) }

func (m maker) pair(l []api.Node, fuel int, kid func([]api.Node, int) []api.Node, kinds ...int) []api.Node {
	l = kid(l, m.Intn(fuel))
	left := len(l) - 1
	l = kid(l, m.Intn(fuel))
	return append(l, between(m.one(kinds...), left, len(l)-1))
}

func (m maker) stmt(fuel int) api.Stmt {
	s := api.Stmt{Kind: 1 + m.Intn(api.SSkip)}
	if fuel == 0 {
		s.Kind = m.one(api.SSet, api.SHavoc, api.SAssume, api.SAssert, api.SCall, api.SSkip)
	}
	switch s.Kind {
	case api.SSet:
		s.Name, s.E = m.name(), m.expr(nil, m.Intn(5))
	case api.SHavoc:
		s.Name = m.name()
	case api.SAssume, api.SAssert:
		s.E = m.cond(nil, m.Intn(5))
	case api.SIf:
		s.E, s.Body, s.Else = m.cond(nil, m.Intn(3)), m.stmts(fuel-1), m.stmts(fuel-1)
	case api.SWhile:
		s.E, s.Body = m.cond(nil, m.Intn(3)), m.stmts(fuel-1)
	case api.SEither:
		s.Body, s.Else = m.stmts(fuel-1), m.stmts(fuel-1)
	case api.SCall:
		s.Proc = m.name()
		if m.Intn(2) == 0 {
			s.Name = m.name()
		}
		for range m.Intn(4) {
			s.Args = append(s.Args, m.expr(nil, m.Intn(4)))
		}
	}
	return s
}

func (m maker) stmts(fuel int) []api.Stmt {
	var l []api.Stmt
	for range m.Intn(3) {
		l = append(l, m.stmt(fuel))
	}
	return l
}

// prog makes a program that is not too long.
func (m maker) prog() api.Prog {
	for {
		var p api.Prog
		for range 1 + m.Intn(3) {
			proc := api.Proc{Name: m.name(), Params: m.names(3), Vars: m.names(2), Body: m.stmts(m.Intn(4))}
			if m.Intn(2) == 0 {
				proc.Result = m.name()
			}
			p.Procs = append(p.Procs, proc)
		}
		if len(spelling{}.prog(p)) <= api.MaxText {
			return p
		}
	}
}

// spots are all fields and items of what v points to; they can be written.
func spots(v reflect.Value) []reflect.Value {
	var l []reflect.Value
	switch v.Kind() {
	case reflect.Pointer:
		return spots(v.Elem())
	case reflect.Struct:
		for i := range v.NumField() {
			l = append(l, spots(v.Field(i))...)
		}
		return l
	case reflect.Slice:
		for i := range v.Len() {
			l = append(l, spots(v.Index(i))...)
		}
	}
	return append(l, v)
}

// others are what may be written to a spot.
func others(spot reflect.Value) []reflect.Value {
	var l []reflect.Value
	switch spot.Kind() {
	case reflect.Int:
		n := int(spot.Int())
		for _, other := range []int{-1 << 62, -2, n - 2, n - 1, n + 1, n + 2, 100, 999999999, 1000000000, 1 << 62} {
			l = append(l, reflect.ValueOf(other))
		}
		for other := -1; other <= api.NOr+1; other++ {
			l = append(l, reflect.ValueOf(other))
		}
	case reflect.String:
		for _, other := range []string{"", "z", "f", "if", "skip", "abcdefghijklmnop", "abcdefghijklmnopq", "X", "aX", "x y", " x", "x ", "x#", "#", "x\n", "1", "1x", "x1_", "_x", ";", "x;", "x,y", "-", "-x", "é", "xé", "\x00", "x\xff", "?"} {
			l = append(l, reflect.ValueOf(other))
		}
	case reflect.Slice:
		n := spot.Len()
		item := reflect.Zero(spot.Type().Elem())
		l = append(l, reflect.Zero(spot.Type()), reflect.MakeSlice(spot.Type(), 0, 3), reflect.Append(spot.Slice3(0, n, n), item))
		if n > 0 {
			last := spot.Index(n - 1)
			l = append(l, spot.Slice(0, n-1), spot.Slice(1, n), reflect.Append(spot.Slice3(0, n, n), last), reflect.Append(spot.Slice3(0, n-1, n-1), item))
		}
	}
	return l
}

// eachSpoilt tells a program that has one spot written to, for each spot and each other thing.
func eachSpoilt(s string, each func(p api.Prog)) {
	p := parsed(s)
	for i, spot := range spots(reflect.ValueOf(&p)) {
		for j := range others(spot) {
			q := parsed(s)
			to := spots(reflect.ValueOf(&q))[i]
			to.Set(others(to)[j])
			each(q)
		}
	}
}

// all kinds of things, in programs that are short.
func samples() []string {
	return []string{
		"proc m ( ) { }",
		"proc m ( ) { x = 1 + 2 ; }",
		"proc f ( a , b ) -> r { var v ; var w ; r = a ; havoc v ; skip ; } proc m ( ) { f ( ) ; x = f ( 1 , - a , b % 3 ) ; }",
		"proc m ( ) { assume true ; assert not [ not * ] ; assume [ true and false ] or x < 1 ; assert not ( a + 1 ) == ( b * 2 ) ; }",
		"proc m ( ) { if * { skip ; } if a >= b { } else { skip ; havoc a ; } while a != ( - 1 ) { x = - ( - 1 ) ; } either { skip ; } or { assume * and a > 0 ; } either { } or { } }",
		"proc m ( ) { x = ( a - b ) - c ; x = a - ( b - c ) ; x = ( a / b ) % ( - c ) ; assume a <= b ; }",
	}
}
