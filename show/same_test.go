package show

import (
	"math"
	"math/rand"
	"reflect"
	"testing"

	"escarpment/api"
)

// 9.2

// areSame holds Same, both ways round.
func areSame(t *testing.T, a, b api.Prog, want bool) {
	t.Helper()
	if Same(a, b) != want || Same(b, a) != want {
		t.Errorf("9.2: Same of\n%s\n%s: %v and %v, want %v", brief(told(a)), brief(told(b)), Same(a, b), Same(b, a), want)
	}
}

func TestSameOfItself(t *testing.T) {
	areSame(t, api.Prog{}, api.Prog{}, true)
	for i, a := range samples() {
		for j, b := range samples() {
			areSame(t, parsed(a), parsed(b), i == j)
		}
		areSame(t, parsed(a), api.Prog{}, false)
		areSame(t, parsed(a), parsed(a+" proc z ( ) { }"), false)
		areSame(t, parsed(a), parsed("proc z ( ) { } "+a), false)
	}
}

// TestEachFieldCounts: each field of each part, wrong ones, too.
func TestEachFieldCounts(t *testing.T) {
	for _, s := range samples() {
		p := parsed(s)
		was := told(p)
		eachSpoilt(s, func(q api.Prog) { areSame(t, p, q, told(q) == was) })
	}
}

// TestNilAndEmpty: a nil list and an empty one are one, in each place; a list of an empty one is another.
func TestNilAndEmpty(t *testing.T) {
	full := func(n []api.Node, a [][]api.Node, s []api.Stmt, l []string) api.Prog {
		return procs(api.Proc{Params: l, Vars: l, Body: s}, api.Proc{Body: []api.Stmt{{E: n, Args: a, Body: s, Else: s}}}, api.Proc{Body: []api.Stmt{{Args: [][]api.Node{n}}}})
	}
	without := full(nil, nil, nil, nil)
	areSame(t, without, full([]api.Node{}, [][]api.Node{}, []api.Stmt{}, []string{}), true)
	areSame(t, without, full(make([]api.Node, 0, 3), make([][]api.Node, 0, 3), make([]api.Stmt, 0, 3), make([]string, 0, 3)), true)
	areSame(t, without, full(make([]api.Node, 1), nil, nil, nil), false)
	areSame(t, without, full(nil, make([][]api.Node, 1), nil, nil), false)
	areSame(t, without, full(nil, nil, make([]api.Stmt, 1), nil), false)
	areSame(t, without, full(nil, nil, nil, make([]string, 1)), false)
	areSame(t, full(nil, [][]api.Node{nil}, nil, nil), full(nil, [][]api.Node{{}}, nil, nil), true)
	areSame(t, full(nil, [][]api.Node{nil}, nil, nil), full(nil, [][]api.Node{{}, nil}, nil, nil), false)
	areSame(t, api.Prog{}, procs([]api.Proc{}...), true)
	areSame(t, api.Prog{}, api.Prog{Procs: []api.Proc{}}, true)
	areSame(t, api.Prog{}, api.Prog{Procs: make([]api.Proc, 0, 3)}, true)
	areSame(t, api.Prog{}, procs(api.Proc{}), false)
	areSame(t, parsed("proc m(){if*{}else{}}"), parsed("proc m(){if*{}}"), true)
}

// TestOrder: lists in another order are others.
func TestOrder(t *testing.T) {
	for _, pair := range [][2]string{
		{"proc a(){}proc b(){}", "proc b(){}proc a(){}"}, {"proc m(a,b){}", "proc m(b,a){}"}, {"proc m(){var a;var b;}", "proc m(){var b;var a;}"},
		{"proc m(a){}", "proc m(){var a;}"}, {"proc m(a){}", "proc m()->a{}"}, {"proc m(){skip;havoc x;}", "proc m(){havoc x;skip;}"},
		{"proc m(){f(1,2);}", "proc m(){f(2,1);}"}, {"proc m(){f(1);}", "proc m(){f(1,1);}"}, {"proc m(){x=f();}", "proc m(){f();}"}, {"proc m(){x=f();}", "proc m(){f=x();}"}, {"proc m(){x=f;}", "proc m(){x=f();}"},
		{"proc m(){either{skip;}or{}}", "proc m(){either{}or{skip;}}"}, {"proc m(){if*{skip;}}", "proc m(){if*{}else{skip;}}"}, {"proc m(){if*{}}", "proc m(){while*{}}"}, {"proc m(){assume*;}", "proc m(){assert*;}"},
		{"proc m(){x=1+2-3;}", "proc m(){x=1+(2-3);}"}, {"proc m(){x=1-2;}", "proc m(){x=2-1;}"}, {"proc m(){x=1;}", "proc m(){x=-1;}"}, {"proc m(){x=a;}", "proc m(){x=b;}"}, {"proc m(){skip;}", "proc m(){while*{skip;}}"},
	} {
		areSame(t, parsed(pair[0]), parsed(pair[1]), false)
		areSame(t, parsed(pair[0]), parsed(pair[0]), true)
		areSame(t, parsed(pair[1]), parsed(pair[1]), true)
	}
}

// TestWrongOnes: programs that no text is parsed to are held against one another all the same.
func TestWrongOnes(t *testing.T) {
	wrong := []api.Prog{
		{}, procs(api.Proc{}), procs(api.Proc{Name: "if"}), procs(api.Proc{}, api.Proc{}), body(api.Stmt{}), body(api.Stmt{Kind: 99}), body(api.Stmt{Kind: math.MinInt}), setTo(), setTo(api.Node{}), setTo(leaf(99)), setTo(number(-1)),
		setTo(above(api.NNeg, 0)), setTo(above(api.NNeg, math.MaxInt)), setTo(between(api.NAdd, -5, 7)), passing(nil), passing(nil, nil), assuming(number(1)), body(api.Stmt{Kind: api.SSkip, Name: "x"}), body(api.Stmt{Kind: api.SSkip, Proc: "x"}),
		body(api.Stmt{Kind: api.SSkip, E: []api.Node{number(1)}}), body(api.Stmt{Kind: api.SSkip, Body: []api.Stmt{{}}}), body(api.Stmt{Kind: api.SSkip, Else: []api.Stmt{{}}}),
	}
	for i, a := range wrong {
		for j, b := range wrong {
			areSame(t, a, b, i == j)
		}
	}
}

// TestPairs: programs made by chance that are near one another.
func TestPairs(t *testing.T) {
	m := maker{rand.New(rand.NewSource(94))}
	for range 3000 {
		p := m.prog()
		q := parsed(spelling{}.prog(p))
		areSame(t, p, q, true)
		all := spots(reflect.ValueOf(&q))
		spot := all[m.Intn(len(all))]
		with := others(spot)
		spot.Set(with[m.Intn(len(with))])
		areSame(t, p, q, told(p) == told(q))
	}
}
