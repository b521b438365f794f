package scope

import (
	"fmt"
	"math/rand"
	"reflect"
	"slices"
	"strconv"
	"strings"
	"testing"

	"escarpment/api"
	"escarpment/parse"
	"escarpment/show"
)

// told is anything of a program as text, each part apart from the next.
func told(a any) string { return toldValue(reflect.ValueOf(a)) }

func toldValue(v reflect.Value) string {
	var parts []string
	switch v.Kind() {
	case reflect.Struct:
		for i := range v.NumField() {
			parts = append(parts, toldValue(v.Field(i)))
		}
	case reflect.Slice:
		for i := range v.Len() {
			parts = append(parts, toldValue(v.Index(i)))
		}
	case reflect.String:
		return strconv.Quote(v.String())
	default:
		return fmt.Sprint(v.Int())
	}
	return "{" + strings.Join(parts, " ") + "}"
}

// brief is what is shown of a program.
func brief(p api.Prog) string {
	s, e := show.Print(p)
	if e != api.OK {
		s = told(p)
	}
	if len(s) > 600 {
		s = s[:300] + " .. " + s[len(s)-300:]
	}
	return s
}

// parsed is a source's program, new each time.
func parsed(s string) api.Prog {
	p, e, at := parse.Prog(s)
	if e != api.OK {
		panic(fmt.Sprint("no program: ", s, " ", e, " at ", at))
	}
	return p
}

// found is what Check tells.
type found struct {
	e           api.Errno
	proc, point int
}

func checked(p api.Prog) found {
	e, proc, point := Check(p)
	return found{e, proc, point}
}

func checks(t *testing.T, p api.Prog, want found) {
	t.Helper()
	if got := checked(p); got != want {
		t.Errorf("10.2: Check tells %v, want %v: %s", got, want, brief(p))
	}
}

// fault is something that Check may tell; the least counts: by the procedure, the point, the order of chapter 10.
type fault struct {
	proc, point, order int
	e                  api.Errno
}

func (a fault) before(b fault) int {
	return slices.Compare([]int{a.proc, a.point, a.order}, []int{b.proc, b.point, b.order})
}

// wanted is what chapter 10 has Check tell, by all faults that there are.
func wanted(p api.Prog) found {
	if !show.Right(p) {
		return found{e: api.ErrArg}
	}
	var all []fault
	for at := range p.Procs {
		all = append(all, headFaults(p, at)...)
		for point, s := range flat(p.Procs[at].Body) {
			for _, f := range stmtFaults(p, p.Procs[at], s) {
				all = append(all, fault{at, point, f.order, f.e})
			}
		}
	}
	if len(all) > 0 {
		least := slices.MinFunc(all, fault.before)
		return found{least.e, least.proc, least.point}
	}
	for at, to := range reached(p) {
		if to[at] {
			return found{api.ErrCircle, at, -1}
		}
	}
	return found{}
}

// flat are statements by their points.
func flat(l []api.Stmt) []api.Stmt {
	var all []api.Stmt
	for _, s := range l {
		all = append(all, s)
		all = append(all, flat(s.Body)...)
		all = append(all, flat(s.Else)...)
	}
	return all
}

func namesOf(p api.Proc) []string {
	all := slices.Concat(p.Params, []string{p.Result}, p.Vars)
	return slices.DeleteFunc(all, func(s string) bool { return s == "" })
}

func headFaults(p api.Prog, at int) []fault {
	var all []fault
	for _, ahead := range p.Procs[:at] {
		if ahead.Name == p.Procs[at].Name {
			all = append(all, fault{at, -1, 0, api.ErrTwice})
		}
	}
	names := namesOf(p.Procs[at])
	for i := range names {
		if slices.Index(names, names[i]) < i {
			all = append(all, fault{at, -1, 1, api.ErrTwice})
		}
	}
	return all
}

func stmtFaults(p api.Prog, proc api.Proc, s api.Stmt) []fault {
	var all []fault
	used := []string{s.Name}
	for _, l := range append([][]api.Node{s.E}, s.Args...) {
		for _, n := range l {
			used = append(used, n.Name)
		}
	}
	for _, name := range used {
		if name != "" && !slices.Contains(namesOf(proc), name) {
			all = append(all, fault{order: 2, e: api.ErrName})
		}
	}
	if s.Proc == "" {
		return all
	}
	to := place(p, s.Proc)
	switch {
	case to == -1:
		all = append(all, fault{order: 3, e: api.ErrName})
	case len(s.Args) != len(p.Procs[to].Params), s.Name != "" && p.Procs[to].Result == "":
		all = append(all, fault{order: 4, e: api.ErrArity})
	}
	return all
}

func place(p api.Prog, name string) int {
	return slices.IndexFunc(p.Procs, func(one api.Proc) bool { return one.Name == name })
}

// reached tells which procedures each comes to by one call or more (Warshall's way).
func reached(p api.Prog) [][]bool {
	n := len(p.Procs)
	to := make([][]bool, n)
	for at := range to {
		to[at] = make([]bool, n)
		for _, s := range flat(p.Procs[at].Body) {
			if s.Proc != "" {
				to[at][place(p, s.Proc)] = true
			}
		}
	}
	for by := range n {
		for from := range n {
			for at := range n {
				to[from][at] = to[from][at] || to[from][by] && to[by][at]
			}
		}
	}
	return to
}

// spots are all fields and items of what v points to; they can be written.
func spots(v reflect.Value) []reflect.Value {
	var l []reflect.Value
	switch v.Kind() {
	case reflect.Pointer:
		return spots(v.Elem())
	case reflect.Struct:
		for i := range v.NumField() {
			l = append(l, spots(v.Field(i))...)
		}
		return l
	case reflect.Slice:
		for i := range v.Len() {
			l = append(l, spots(v.Index(i))...)
		}
	}
	return append(l, v)
}

// others are what may be written to a spot.
func others(spot reflect.Value) []reflect.Value {
	var l []reflect.Value
	switch spot.Kind() {
	case reflect.Int:
		for other := -2; other <= api.NOr+1; other++ {
			l = append(l, reflect.ValueOf(other))
		}
	case reflect.String:
		for _, other := range []string{"", "a", "b", "f", "m", "r", "v", "x", "nix", "if", "A"} {
			l = append(l, reflect.ValueOf(other))
		}
	case reflect.Slice:
		n := spot.Len()
		l = append(l, reflect.Zero(spot.Type()), reflect.Append(spot.Slice3(0, n, n), reflect.Zero(spot.Type().Elem())))
		if n > 0 {
			l = append(l, spot.Slice(0, n-1), spot.Slice(1, n), reflect.Append(spot.Slice3(0, n, n), spot.Index(n-1)), reflect.Append(spot.Slice3(0, n, n), spot.Index(0)))
		}
	}
	return l
}

// eachSpoilt tells a program that has one spot written to, for each spot and each other thing.
func eachSpoilt(s string, each func(p api.Prog)) {
	p := parsed(s)
	for i, spot := range spots(reflect.ValueOf(&p)) {
		for j := range others(spot) {
			q := parsed(s)
			to := spots(reflect.ValueOf(&q))[i]
			to.Set(others(to)[j])
			each(q)
		}
	}
}

// samples may be run; all kinds of things are in them.
func samples() []string {
	return []string{
		"proc m(){}",
		"proc f(a,b)->r{var v;r=a/b;havoc v;skip;assert v%a<1;}proc m()->x{var v;f(1,x);x=f(-v,v%3);}",
		"proc m(a)->x{if a/2<x{x=1;}else{while *{assert x==1 or a%2<a/3;}either{}or{havoc a;}}if true{}assume not[true];}",
		"proc a(){b();c();}proc b(){if *{c();}else{d();}}proc c()->r{d();}proc d(){}",
	}
}

// maker makes programs by chance.
type maker struct{ *rand.Rand }

func (m maker) one(l ...string) string { return l[m.Intn(len(l))] }

// expr and cond are texts of no more than so many operators over those names.
func (m maker) expr(names []string, fuel int) string {
	switch {
	case fuel == 0 && (len(names) == 0 || m.Intn(3) == 0):
		return fmt.Sprint(m.Intn(5))
	case fuel == 0:
		return m.one(names...)
	case m.Intn(5) == 0:
		return "-(" + m.expr(names, fuel-1) + ")"
	}
	left := m.Intn(fuel)
	return "(" + m.expr(names, left) + ")" + m.one("+", "-", "*", "/", "%") + "(" + m.expr(names, fuel-1-left) + ")"
}

func (m maker) cond(names []string, fuel int) string {
	switch m.Intn(4) {
	case 0:
		return m.one("true", "false", "*")
	case 1:
		return "not[" + m.cond(names, fuel/2) + "]" + m.one("and", "or") + "[" + m.cond(names, fuel/2) + "]"
	}
	return "(" + m.expr(names, fuel/2) + ")" + m.one("==", "!=", "<", "<=", ">", ">=") + "(" + m.expr(names, fuel/2) + ")"
}

// sound is a program that may be run: procedures in any order, of which each calls only those behind it in another one.
func (m maker) sound() api.Prog {
	n := 1 + m.Intn(4)
	heads := make([]api.Proc, n)
	for at := range heads {
		names := []string{"a", "b", "c", "d", "e", "f"}
		m.Shuffle(len(names), func(i, j int) { names[i], names[j] = names[j], names[i] })
		params, vars := m.Intn(3), m.Intn(3)
		heads[at] = api.Proc{Name: string(rune('a' + at)), Params: names[:params], Vars: names[params : params+vars]}
		if m.Intn(2) == 0 {
			heads[at].Result = names[5]
		}
	}
	texts := make([]string, n)
	for at, head := range heads {
		result := ""
		if head.Result != "" {
			result = "->" + head.Result
		}
		texts[at] = "proc " + head.Name + "(" + strings.Join(head.Params, ",") + ")" + result + "{"
		for _, name := range head.Vars {
			texts[at] += "var " + name + ";"
		}
		texts[at] += m.stmts(namesOf(head), heads[at+1:], 3) + "}"
	}
	m.Shuffle(n, func(i, j int) { texts[i], texts[j] = texts[j], texts[i] })
	return parsed(strings.Join(texts, ""))
}

func (m maker) stmts(names []string, to []api.Proc, fuel int) string {
	s := ""
	for range m.Intn(3) {
		s += m.stmt(names, to, fuel)
	}
	return s
}

func (m maker) stmt(names []string, to []api.Proc, fuel int) string {
	block := func() string { return "{" + m.stmts(names, to, fuel-1) + "}" }
	kind := m.Intn(10)
	switch {
	case kind == 0 && len(names) > 0:
		return m.one(names...) + "=" + m.expr(names, m.Intn(5)) + ";"
	case kind == 1 && len(names) > 0:
		return "havoc " + m.one(names...) + ";"
	case kind == 2:
		return "assume " + m.cond(names, m.Intn(9)) + ";"
	case kind == 3:
		return "assert " + m.cond(names, m.Intn(9)) + ";"
	case kind == 4 && fuel > 0:
		return "if " + m.cond(names, m.Intn(5)) + block() + "else" + block()
	case kind == 5 && fuel > 0:
		return "while " + m.cond(names, m.Intn(5)) + block()
	case kind == 6 && fuel > 0:
		return "either" + block() + "or" + block()
	case kind >= 7 && len(to) > 0:
		return m.call(names, to[m.Intn(len(to))])
	}
	return "skip;"
}

func (m maker) call(names []string, to api.Proc) string {
	var args []string
	for range to.Params {
		args = append(args, m.expr(names, m.Intn(3)))
	}
	s := to.Name + "(" + strings.Join(args, ",") + ");"
	if to.Result != "" && len(names) > 0 && m.Intn(2) == 0 {
		s = m.one(names...) + "=" + s
	}
	return s
}

// spoil writes to one spot, or adds a call.
func (m maker) spoil(p *api.Prog) {
	switch kind := m.Intn(8); {
	case kind == 0:
		m.spoilAny(p)
	case kind < 3:
		proc, to := &p.Procs[m.Intn(len(p.Procs))], p.Procs[m.Intn(len(p.Procs))]
		s := api.Stmt{Kind: api.SCall, Proc: to.Name, Args: slices.Repeat([][]api.Node{{{Kind: api.NNum, A: -1, B: -1}}}, len(to.Params))}
		proc.Body = slices.Insert(slices.Clone(proc.Body), m.Intn(len(proc.Body)+1), s)
	case kind < 5:
		m.spoilCall(p)
	default:
		m.spoilName(p)
	}
}

func (m maker) spoilAny(p *api.Prog) {
	all := spots(reflect.ValueOf(p))
	spot := all[m.Intn(len(all))]
	l := others(spot)
	spot.Set(l[m.Intn(len(l))])
}

// spoilName changes a name for another that may stand there, too.
func (m maker) spoilName(p *api.Prog) {
	var names []reflect.Value
	for _, spot := range spots(reflect.ValueOf(p)) {
		if spot.Kind() == reflect.String && spot.String() != "" {
			names = append(names, spot)
		}
	}
	names[m.Intn(len(names))].SetString(m.one("a", "b", "c", "d", "e", "f", "g"))
}

// spoilCall changes how many arguments a call has, if there is one, or has it told.
func (m maker) spoilCall(p *api.Prog) {
	var calls []*api.Stmt
	for _, spot := range spots(reflect.ValueOf(p)) {
		if s, is := spot.Addr().Interface().(*[]api.Stmt); is {
			for i := range *s {
				if (*s)[i].Kind == api.SCall {
					calls = append(calls, &(*s)[i])
				}
			}
		}
	}
	if len(calls) == 0 {
		return
	}
	s := calls[m.Intn(len(calls))]
	switch n := len(s.Args); m.Intn(3) {
	case 0:
		s.Args = append(s.Args[:n:n], []api.Node{{Kind: api.NNum, A: -1, B: -1}})
	case 1:
		s.Args = s.Args[:max(n, 1)-1]
	default:
		s.Name = m.one("", "a", "b", "c", "d", "e", "f")
	}
}
