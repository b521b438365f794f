package scope

import (
	"fmt"
	"math/rand"
	"slices"
	"strings"
	"testing"

	"escarpment/api"
	"escarpment/show"
)

// TestEachAlone: one error, or none.
func TestEachAlone(t *testing.T) {
	ok := found{}
	for _, c := range []struct {
		s    string
		want found
	}{
		{"proc m(){}", ok},
		{"proc m(m){m=m;}", ok},
		{"proc f(a)->r{var v;}proc m(r)->v{var a;a=f(r);f(v);}", ok},
		{"proc m(){f();g();}proc f(){g();}proc g(){}", ok},
		{"proc a(){}proc b(){}proc a(){}", found{api.ErrTwice, 2, -1}},
		{"proc a(){}proc b(){}proc b(){}proc a(){}", found{api.ErrTwice, 2, -1}},
		{"proc a(){}proc b(x,y,x){}", found{api.ErrTwice, 1, -1}},
		{"proc a(){}proc b(x)->x{}", found{api.ErrTwice, 1, -1}},
		{"proc a(){}proc b(x){var y;var x;}", found{api.ErrTwice, 1, -1}},
		{"proc a(){}proc b()->x{var x;}", found{api.ErrTwice, 1, -1}},
		{"proc a(){}proc b(){var x;var y;var x;}", found{api.ErrTwice, 1, -1}},
		{"proc m(x){x=1;y=1;}", found{api.ErrName, 0, 1}},
		{"proc m(x){x=1;havoc x;havoc y;}", found{api.ErrName, 0, 2}},
		{"proc m(x){x=x+(x*-y);}", found{api.ErrName, 0, 0}},
		{"proc m(x){assume x<y;}", found{api.ErrName, 0, 0}},
		{"proc m(x){assert x<1 and[y<x];}", found{api.ErrName, 0, 0}},
		{"proc m(x){if y==1{}}", found{api.ErrName, 0, 0}},
		{"proc m(x){while y==1{}}", found{api.ErrName, 0, 0}},
		{"proc m(x){if *{skip;}else{if *{x=y;}}}", found{api.ErrName, 0, 3}},
		{"proc m(x){while *{while *{x=y;}}}", found{api.ErrName, 0, 2}},
		{"proc m(x){either{skip;}or{skip;}either{}or{havoc y;}}", found{api.ErrName, 0, 4}},
		{"proc f(a,b)->r{}proc m(x){y=f(x,x);}", found{api.ErrName, 1, 0}},
		{"proc f(a,b)->r{}proc m(x){x=f(y,x);}", found{api.ErrName, 1, 0}},
		{"proc f(a,b)->r{}proc m(x){x=f(x,1+y);}", found{api.ErrName, 1, 0}},
		{"proc f(a,b)->r{}proc m(x){f(a,b);}", found{api.ErrName, 1, 0}},
		{"proc f(a,b)->r{}proc m(x){r=1;}", found{api.ErrName, 1, 0}},
		{"proc f(a,b)->r{}proc m(x){f=1;}", found{api.ErrName, 1, 0}},
		{"proc m(x){skip;x=m+1;}", found{api.ErrName, 0, 1}},
		{"proc m(x){x();}", found{api.ErrName, 0, 0}},
		{"proc m(x){skip;x=f();}", found{api.ErrName, 0, 1}},
		{"proc f(a){}proc m(){skip;f();}", found{api.ErrArity, 1, 1}},
		{"proc f(a){}proc m(){skip;f(1,2);}", found{api.ErrArity, 1, 1}},
		{"proc f(){}proc m(x){x=f();}", found{api.ErrArity, 1, 0}},
		{"proc m(x){m(x);}", found{api.ErrCircle, 0, -1}},
		{"proc m(){skip;}proc n(){if *{}else{n();}}", found{api.ErrCircle, 1, -1}},
	} {
		checks(t, parsed(c.s), c.want)
	}
}

// TestFirstOfOne: of what is wrong with one statement, one head.
func TestFirstOfOne(t *testing.T) {
	for _, c := range []struct {
		s    string
		want found
	}{
		{"proc f(){}proc m(x){y=f();}", found{api.ErrName, 1, 0}},
		{"proc f(){}proc m(x){f(y);}", found{api.ErrName, 1, 0}},
		{"proc m(x){x=f(y);}", found{api.ErrName, 0, 0}},
		{"proc f(a){}proc m(x){x=f();}", found{api.ErrArity, 1, 0}},
		{"proc m(x){x=m();}", found{api.ErrArity, 0, 0}},
		{"proc m(x){m(y);}", found{api.ErrName, 0, 0}},
		{"proc m(){}proc m(x,x){y=1;}", found{api.ErrTwice, 1, -1}},
		{"proc m(x,x){m();}proc m(){}", found{api.ErrTwice, 0, -1}},
		{"proc m(){m();x=1;}", found{api.ErrName, 0, 1}},
		{"proc m(){m();}proc n(){n(1);}", found{api.ErrArity, 1, 0}},
		{"proc m(){m();}proc m(){}", found{api.ErrTwice, 1, -1}},
		{"proc m(){m();}proc n(x,x){}", found{api.ErrTwice, 1, -1}},
		{"proc n(){}proc m(){m();}proc o(){o();}", found{api.ErrCircle, 1, -1}},
		{"proc m(){while x<1{y=1;}}", found{api.ErrName, 0, 0}},
		{"proc m(x){while x<1{skip;}f();}proc f(a){}", found{api.ErrArity, 0, 2}},
		// Of two procedures of one name a call is held against the first.
		{"proc m(){f(1);}proc f(){}proc f(x){}", found{api.ErrArity, 0, 0}},
		{"proc m(){f(1);}proc f(x){}proc f(){}", found{api.ErrTwice, 2, -1}},
		{"proc m(x){x=f();}proc f(){}proc f()->r{}", found{api.ErrArity, 0, 0}},
	} {
		checks(t, parsed(c.s), c.want)
	}
}

// part is a piece of a source, which may be written so that it is wrong.
type part struct {
	good, bad string
	want      found
}

// parts are in the order in which they count, circles behind all others.
func parts() []part {
	always := func(s string) part { return part{good: s, bad: s} }
	return []part{
		always("proc e(a"), {"", ",a", found{api.ErrTwice, 0, -1}}, always(")->r{"), {"", "var r;", found{api.ErrTwice, 0, -1}},
		always("r=a+"), {"1", "q", found{api.ErrName, 0, 0}}, always(";while a<1{havoc "), {"a", "q", found{api.ErrName, 0, 2}},
		always(";}if true{f("), {"", "1,", found{api.ErrArity, 0, 4}}, always("a);}else{"), {"f", "nix", found{api.ErrName, 0, 5}},
		always("(a);}}proc "), {"g", "e", found{api.ErrTwice, 1, -1}}, always("(){}proc f(x){"), {"", "var x;", found{api.ErrTwice, 2, -1}},
		{"skip", "f(x)", found{api.ErrCircle, 2, -1}}, always(";assert true;}proc m(){"),
		{"skip", "m()", found{api.ErrCircle, 3, -1}}, always(";either{"), {"skip", "e(q)", found{api.ErrName, 3, 2}}, always(";}or{"),
		{"skip", "g=e(1)", found{api.ErrName, 3, 3}}, always(";}e(1);}"),
	}
}

// TestFirstOfMany: each choice of errors in one program: the first by procedures and points is told, circles behind all.
func TestFirstOfMany(t *testing.T) {
	all := parts()
	for choice := range 1 << 12 {
		var s strings.Builder
		var first, circle found
		for _, one := range all {
			if one.good == one.bad {
				s.WriteString(one.good)
				continue
			}
			bad := choice&1 == 1
			choice >>= 1
			switch {
			case !bad:
				s.WriteString(one.good)
				continue
			case one.want.e == api.ErrCircle && circle == found{}:
				circle = one.want
			case one.want.e != api.ErrCircle && first == found{}:
				first = one.want
			}
			s.WriteString(one.bad)
		}
		if choice != 0 {
			t.Fatal("more choices than parts")
		}
		if first == (found{}) {
			first = circle
		}
		checks(t, parsed(s.String()), first)
	}
}

// TestTwiceAmongNames: each two places of a procedure's names.
func TestTwiceAmongNames(t *testing.T) {
	const places = 7 // three parameters, the result, three variables
	for i := range places {
		for j := range i {
			for _, name := range []string{"m", "z", "abcdefghijklmnop"} {
				l := []string{"a", "b", "c", "d", "e", "f", "g"}
				l[i], l[j] = name, name
				m := func() api.Proc { return api.Proc{Name: "m", Params: l[:3], Result: l[3], Vars: l[4:]} }
				checks(t, api.Prog{Procs: []api.Proc{m()}}, found{api.ErrTwice, 0, -1})
				checks(t, api.Prog{Procs: []api.Proc{{Name: "n"}, m()}}, found{api.ErrTwice, 1, -1})
				l[j] = l[j][:len(l[j])-1] + "y"
				checks(t, api.Prog{Procs: []api.Proc{m()}}, found{})
			}
		}
	}
	// Procedures share no names but their own.
	checks(t, parsed("proc a(x)->y{var z;}proc b(x)->y{var z;}proc x(a)->b{var c;}"), found{})
}

// TestNamesAtEachPlace: a name used at each place where one may stand, that is the procedure's, or another's.
func TestNamesAtEachPlace(t *testing.T) {
	uses := []string{"?=1", "havoc ?", "x=?", "x=1+(2*-?)", "x=?+1", "x=(x/?)%x", "assume ?<1", "assert 1>=?", "assume true and[not[x==?]]",
		"?=f(x,x)", "x=f(?,x)", "x=f(x,?)", "f(?,x)", "f(x,?)", "f(x,x+(x- ?))", "f(x,(?)/x)"}
	around := []struct {
		s     string
		point int
	}{
		{"!;", 0}, {"skip;!;", 1}, {"if *{!;}", 1}, {"if *{skip;}else{!;}", 2}, {"while *{!;skip;}", 1}, {"either{!;}or{}", 1},
		{"either{skip;}or{!;}", 2}, {"if *{either{}or{while *{!;}}}else{skip;}!;", 3},
	}
	heads := []struct {
		s  string
		is bool
	}{
		{"(x,y)", true}, {"(y,x)", true}, {"(x)->y", true}, {"(x)|var y;", true}, {"()->x|var z;var y;", true},
		{"(x)", false}, {"(x)->z", false}, {"(x,yy)", false}, {"(x,f)", false}, {"(x)->m", false}, {"(x)|var a;var r;var v;", false},
	}
	for _, head := range heads {
		for _, a := range around {
			for _, use := range uses {
				begin, vars, _ := strings.Cut(head.s, "|")
				body := strings.ReplaceAll(a.s, "!", strings.ReplaceAll(use, "?", "y"))
				want := found{api.ErrName, 1, a.point}
				if head.is {
					want = found{}
				}
				checks(t, parsed("proc f(a,b)->r{var y;}proc m"+begin+"{"+vars+body+"}"), want)
			}
		}
	}
	for _, use := range []string{"if ?<1{}", "if 1<?{}else{skip;}", "while ?==x{skip;}", "while true or[?!=1]{}"} {
		checks(t, parsed("proc m(x){skip;"+strings.ReplaceAll(use, "?", "x")+"}"), found{})
		checks(t, parsed("proc m(x){skip;"+strings.ReplaceAll(use, "?", "y")+"}"), found{api.ErrName, 0, 1})
	}
}

// TestCalls: each count of arguments for each of parameters, with a result and without, told and untold, ahead and behind.
func TestCalls(t *testing.T) {
	list := func(n int, s string) string { return strings.Join(strings.Split(strings.Repeat(s, n), "")[:n], ",") }
	for params := range 5 {
		for args := range 5 {
			for kind := range 4 {
				called := "proc f(" + list(params, "abcde"[:max(1, params)]) + ")"
				call, want := "f("+list(args, "1")+");", found{}
				if kind&1 != 0 {
					called += "->r"
				}
				if kind&2 != 0 {
					call = "x=" + call
				}
				if args != params || kind == 2 {
					want.e = api.ErrArity
				}
				called += "{}"
				checks(t, parsed("proc m(x){"+call+"}"+called), want)
				checks(t, parsed("proc m(x){if *{}else{skip;"+call+"}}"+called), found{want.e, 0, 2 * int(min(want.e, 1))})
				if want.e != api.OK {
					want.proc = 1
				}
				checks(t, parsed(called+"proc m(x){"+call+"}"), want)
			}
		}
	}
}

// TestByChance: programs that may be run, and ones that have been written to, against all errors that there are.
func TestByChance(t *testing.T) {
	m := maker{rand.New(rand.NewSource(1))}
	count := map[found]int{}
	for range 4000 {
		p := m.sound()
		checks(t, p, found{})
		for range 1 + m.Intn(4) {
			m.spoil(&p)
			want := wanted(p)
			count[found{want.e, min(want.proc, 2), min(want.point, 2)}]++
			checks(t, p, want)
			if want.e == api.ErrArg {
				break
			}
		}
	}
	for _, e := range []api.Errno{api.ErrName, api.ErrArity} {
		for proc := range 3 {
			for point := range 3 {
				if count[found{e, proc, point}] < 20 {
					t.Error("too few of", e, proc, point, count)
				}
			}
		}
	}
	for _, f := range []found{{api.ErrTwice, 0, -1}, {api.ErrTwice, 1, -1}, {api.ErrTwice, 2, -1}, {api.ErrCircle, 0, -1}, {api.ErrCircle, 1, -1}, {api.ErrCircle, 2, -1}, {api.ErrArg, 0, 0}, {}} {
		if count[f] < 20 {
			t.Error("too few of", f, count)
		}
	}
}

// TestSpoilt: each field of each part written to.
func TestSpoilt(t *testing.T) {
	for _, s := range samples() {
		checks(t, parsed(s), found{})
		eachSpoilt(s, func(p api.Prog) { checks(t, p, wanted(p)) })
	}
}

// TestNotRight: whatever else is wrong.
func TestNotRight(t *testing.T) {
	skip := api.Stmt{Kind: api.SSkip}
	no := api.Stmt{Kind: 99}
	set := func(l ...api.Node) api.Stmt { return api.Stmt{Kind: api.SSet, Name: "x", E: l} }
	m := func(l ...api.Stmt) api.Proc { return api.Proc{Name: "m", Params: []string{"x"}, Body: l} }
	for _, l := range [][]api.Proc{
		nil, {}, {{}}, {m(no)}, {m(api.Stmt{})}, {m(set())}, {m(skip), {}}, {m(skip), m(skip), m(no)}, {{Name: "1"}}, {{Name: "if"}},
		{{Name: "m", Params: []string{"x", "x", ""}}}, {{Name: "m", Result: "A"}}, {{Name: "m", Vars: []string{"v", " v"}}},
		{m(set(api.Node{Kind: api.NVar, Name: "x"}))}, {m(set(api.Node{Kind: api.NNum, A: -1, B: -1, Name: "q"}))},
		{m(api.Stmt{Kind: api.SSkip, Name: "q"})}, {m(api.Stmt{Kind: api.SHavoc})}, {m(api.Stmt{Kind: api.SCall, Name: "x"})},
		{m(api.Stmt{Kind: api.SCall, Proc: "m", Args: [][]api.Node{nil}})}, {m(api.Stmt{Kind: api.SSkip, Proc: "m"})},
	} {
		p := api.Prog{Procs: l}
		if show.Right(p) {
			t.Fatal("this is right:", told(p))
		}
		checks(t, p, found{e: api.ErrArg})
	}
}

// TestLong: a program whose text is longer than a source may be is right, too.
func TestLong(t *testing.T) {
	var l []api.Proc
	for i := range 5000 {
		name := fmt.Sprint("f", i)
		l = append(l, api.Proc{Name: name, Params: []string{"x"}, Body: []api.Stmt{{Kind: api.SHavoc, Name: "x"}}})
	}
	checks(t, api.Prog{Procs: l}, found{})
	l[4000].Body = []api.Stmt{{Kind: api.SSkip}, {Kind: api.SHavoc, Name: "y"}}
	checks(t, api.Prog{Procs: l}, found{api.ErrName, 4000, 1})
	l[4000].Name = l[7].Name
	checks(t, api.Prog{Procs: l}, found{api.ErrTwice, 4000, -1})
	l[4000].Name = "f4000"
	l[4000].Body = slices.Repeat([]api.Stmt{{Kind: api.SSkip}}, 100000)
	l[4000].Body[99999] = api.Stmt{Kind: api.SCall, Proc: "nix"}
	checks(t, api.Prog{Procs: l}, found{api.ErrName, 4000, 99999})
}

// TestManyNames: names are looked for at once, however many there are.
func TestManyNames(t *testing.T) {
	m := api.Proc{Name: "m"}
	for i := range 200000 {
		m.Vars = append(m.Vars, fmt.Sprint("v", i))
		m.Body = append(m.Body, api.Stmt{Kind: api.SHavoc, Name: fmt.Sprint("v", 199999-i)})
	}
	checks(t, api.Prog{Procs: []api.Proc{m}}, found{})
	m.Body[150000].Name = "v200000"
	checks(t, api.Prog{Procs: []api.Proc{m}}, found{api.ErrName, 0, 150000})
	m.Vars = append(m.Vars, "v0")
	checks(t, api.Prog{Procs: []api.Proc{m}}, found{api.ErrTwice, 0, -1})
}
