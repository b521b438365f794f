package parse

import (
	"math/rand"
	"strings"
	"testing"

	"escarpment/api"
)

// 8.2

func TestExample(t *testing.T) {
	programIs(t, "8.2", "proc m ( ) { x = 1 + 2 ; }", api.Prog{Procs: []api.Proc{{Name: "m", Body: []api.Stmt{
		{Kind: api.SSet, Name: "x", E: []api.Node{number(1), number(2), between(api.NAdd, 0, 1)}},
	}}}})
}

func TestProcedures(t *testing.T) {
	for s, want := range map[string]api.Proc{
		"proc m(){}":                         {Name: "m"},
		"proc m(a){}":                        {Name: "m", Params: []string{"a"}},
		"proc m(a,b,c){}":                    {Name: "m", Params: []string{"a", "b", "c"}},
		"proc m()->r{}":                      {Name: "m", Result: "r"},
		"proc m(){var x;}":                   {Name: "m", Vars: []string{"x"}},
		"proc m(){var y;var x;}":             {Name: "m", Vars: []string{"y", "x"}},
		"proc m(m,m)->m{var m;var m;}":       {Name: "m", Params: []string{"m", "m"}, Result: "m", Vars: []string{"m", "m"}},
		"proc m(b,a)->r{var x;skip;skip;}":   {Name: "m", Params: []string{"b", "a"}, Result: "r", Vars: []string{"x"}, Body: []api.Stmt{{Kind: api.SSkip}, {Kind: api.SSkip}}},
		"# m\n proc m ( )\r\n\t{ skip ; } #": {Name: "m", Body: []api.Stmt{{Kind: api.SSkip}}},
	} {
		programIs(t, "8.2", s, api.Prog{Procs: []api.Proc{want}})
		programIs(t, "8.2", s+"\nproc z(){}", api.Prog{Procs: []api.Proc{want, {Name: "z"}}})
		programIs(t, "8.2", "proc a(){}proc a(){}"+s, api.Prog{Procs: []api.Proc{{Name: "a"}, {Name: "a"}, want}})
	}
}

func TestStatements(t *testing.T) {
	one := []api.Node{number(1)}
	pick := []api.Node{leaf(api.NPick)}
	skip := []api.Stmt{{Kind: api.SSkip}}
	two := []api.Stmt{{Kind: api.SHavoc, Name: "a"}, {Kind: api.SHavoc, Name: "b"}}
	for s, want := range map[string]api.Stmt{
		"x = 1 ;":                      {Kind: api.SSet, Name: "x", E: one},
		"havoc x ;":                    {Kind: api.SHavoc, Name: "x"},
		"assume * ;":                   {Kind: api.SAssume, E: pick},
		"assert * ;":                   {Kind: api.SAssert, E: pick},
		"skip ;":                       {Kind: api.SSkip},
		"f ( ) ;":                      {Kind: api.SCall, Proc: "f"},
		"f ( 1 ) ;":                    {Kind: api.SCall, Proc: "f", Args: [][]api.Node{one}},
		"f ( 1 , 1 , 1 ) ;":            {Kind: api.SCall, Proc: "f", Args: [][]api.Node{one, one, one}},
		"x = f ( ) ;":                  {Kind: api.SCall, Name: "x", Proc: "f"},
		"x = f ( 1 ) ;":                {Kind: api.SCall, Name: "x", Proc: "f", Args: [][]api.Node{one}},
		"x = x ( x , 1 ) ;":            {Kind: api.SCall, Name: "x", Proc: "x", Args: [][]api.Node{{variable("x")}, one}},
		"x = f ( a + 1 , 1 - a ) ;":    {Kind: api.SCall, Name: "x", Proc: "f", Args: [][]api.Node{{variable("a"), number(1), between(api.NAdd, 0, 1)}, {number(1), variable("a"), between(api.NSub, 0, 1)}}},
		"x = f ;":                      {Kind: api.SSet, Name: "x", E: []api.Node{variable("f")}},
		"x = f + ( 1 ) ;":              {Kind: api.SSet, Name: "x", E: []api.Node{variable("f"), number(1), between(api.NAdd, 0, 1)}},
		"if * { }":                     {Kind: api.SIf, E: pick},
		"if * { skip ; }":              {Kind: api.SIf, E: pick, Body: skip},
		"if * { } else { }":            {Kind: api.SIf, E: pick},
		"if * { skip ; } else { }":     {Kind: api.SIf, E: pick, Body: skip},
		"if * { } else { skip ; }":     {Kind: api.SIf, E: pick, Else: skip},
		"if * { havoc a ; havoc b ; }": {Kind: api.SIf, E: pick, Body: two},
		"if * { skip ; } else { havoc a ; havoc b ; }": {Kind: api.SIf, E: pick, Body: skip, Else: two},
		"while * { }":                                  {Kind: api.SWhile, E: pick},
		"while * { havoc a ; havoc b ; }":              {Kind: api.SWhile, E: pick, Body: two},
		"either { } or { }":                            {Kind: api.SEither},
		"either { skip ; } or { }":                     {Kind: api.SEither, Body: skip},
		"either { } or { skip ; }":                     {Kind: api.SEither, Else: skip},
		"either { havoc a ; havoc b ; } or { skip ; }": {Kind: api.SEither, Body: two, Else: skip},
		"if * { if * { } else { skip ; } }":            {Kind: api.SIf, E: pick, Body: []api.Stmt{{Kind: api.SIf, E: pick, Else: skip}}},
		"if * { if * { } } else { skip ; }":            {Kind: api.SIf, E: pick, Body: []api.Stmt{{Kind: api.SIf, E: pick}}, Else: skip},
		"while * { either { while * { } } or { } }":    {Kind: api.SWhile, E: pick, Body: []api.Stmt{{Kind: api.SEither, Body: []api.Stmt{{Kind: api.SWhile, E: pick}}}}},
	} {
		bodyIs(t, s, want)
		bodyIs(t, s+s, want, want)
		bodyIs(t, "skip ; "+s+" havoc z ;", api.Stmt{Kind: api.SSkip}, want, api.Stmt{Kind: api.SHavoc, Name: "z"})
		bodyIs(t, "while * { "+s+" }", api.Stmt{Kind: api.SWhile, E: pick, Body: []api.Stmt{want}})
	}
}

func TestExpressions(t *testing.T) {
	a, b, c, d := variable("a"), variable("b"), variable("c"), variable("d")
	exprIs(t, "0", number(0))
	exprIs(t, "7", number(7))
	exprIs(t, "999999999", number(999999999))
	exprIs(t, "a", a)
	exprIs(t, "abcdefghijklmnop", variable("abcdefghijklmnop"))
	exprIs(t, "- a", a, above(api.NNeg, 0))
	exprIs(t, "- 1", number(1), above(api.NNeg, 0))
	exprIs(t, "- - a", a, above(api.NNeg, 0), above(api.NNeg, 1))
	exprIs(t, "( a )", a)
	exprIs(t, "( ( ( 1 ) ) )", number(1))
	exprIs(t, "- ( - ( a ) )", a, above(api.NNeg, 0), above(api.NNeg, 1))
	for text, kind := range map[string]int{"+": api.NAdd, "-": api.NSub, "*": api.NMul, "/": api.NDiv, "%": api.NMod} {
		exprIs(t, "a "+text+" b", a, b, between(kind, 0, 1))
		exprIs(t, "a "+text+" a", a, a, between(kind, 0, 1))
		exprIs(t, "a "+text+" - b", a, b, above(api.NNeg, 1), between(kind, 0, 2))
		exprIs(t, "- a "+text+" b", a, above(api.NNeg, 0), b, between(kind, 1, 2))
		exprIs(t, "- ( a "+text+" b )", a, b, between(kind, 0, 1), above(api.NNeg, 2))
		exprIs(t, "a "+text+" b "+text+" c", a, b, between(kind, 0, 1), c, between(kind, 2, 3))
		exprIs(t, "a "+text+" ( b "+text+" c )", a, b, c, between(kind, 1, 2), between(kind, 0, 3))
		exprIs(t, "( a "+text+" b ) "+text+" ( c "+text+" d )", a, b, between(kind, 0, 1), c, d, between(kind, 3, 4), between(kind, 2, 5))
	}
	exprIs(t, "a + b * c", a, b, c, between(api.NMul, 1, 2), between(api.NAdd, 0, 3))
	exprIs(t, "a * b + c", a, b, between(api.NMul, 0, 1), c, between(api.NAdd, 2, 3))
	exprIs(t, "a * b - c / d", a, b, between(api.NMul, 0, 1), c, d, between(api.NDiv, 3, 4), between(api.NSub, 2, 5))
	exprIs(t, "( a + b ) % c", a, b, between(api.NAdd, 0, 1), c, between(api.NMod, 2, 3))
	exprIs(t, "a % ( b - c )", a, b, c, between(api.NSub, 1, 2), between(api.NMod, 0, 3))
}

// TestFromTheLeft: sums and products that are long.
func TestFromTheLeft(t *testing.T) {
	for _, rank := range [][]int{{api.NAdd, api.NSub}, {api.NMul, api.NDiv, api.NMod}, {api.NAnd, api.NOr}} {
		for first := range rank {
			words := []string{"a"}
			want := []api.Node{variable("a")}
			if rank[0] == api.NAnd {
				words, want = []string{"*"}, []api.Node{leaf(api.NPick)}
				rank = rank[first : first+1]
				first = 0
			}
			for n := range 300 {
				kind := rank[(first+n)%len(rank)]
				words = append(words, texts()[kind], words[0])
				want = append(want, want[0], between(kind, 2*n, 2*n+1))
			}
			if rank[0] < api.NTrue {
				exprIs(t, strings.Join(words, " "), want...)
			} else {
				condIs(t, strings.Join(words, " "), want...)
			}
		}
	}
}

func TestConditions(t *testing.T) {
	a, b := variable("a"), variable("b")
	yes, no, pick := leaf(api.NTrue), leaf(api.NFalse), leaf(api.NPick)
	condIs(t, "true", yes)
	condIs(t, "false", no)
	condIs(t, "*", pick)
	condIs(t, "not true", yes, above(api.NNot, 0))
	condIs(t, "not not *", pick, above(api.NNot, 0), above(api.NNot, 1))
	condIs(t, "[ * ]", pick)
	condIs(t, "[ [ [ false ] ] ]", no)
	for text, kind := range map[string]int{"==": api.NEq, "!=": api.NNe, "<": api.NLt, "<=": api.NLe, ">": api.NGt, ">=": api.NGe} {
		condIs(t, "a "+text+" b", a, b, between(kind, 0, 1))
		condIs(t, "a "+text+" 1", a, number(1), between(kind, 0, 1))
		condIs(t, "a + 1 "+text+" - b", a, number(1), between(api.NAdd, 0, 1), b, above(api.NNeg, 3), between(kind, 2, 4))
		condIs(t, "( a ) "+text+" ( b - a )", a, b, a, between(api.NSub, 1, 2), between(kind, 0, 3))
		condIs(t, "not a "+text+" b", a, b, between(kind, 0, 1), above(api.NNot, 2))
		condIs(t, "[ a "+text+" b ]", a, b, between(kind, 0, 1))
		condIs(t, "a "+text+" b or b "+text+" a and *", a, b, between(kind, 0, 1), b, a, between(kind, 3, 4), pick, between(api.NAnd, 5, 6), between(api.NOr, 2, 7))
	}
	condIs(t, "true or false and *", yes, no, pick, between(api.NAnd, 1, 2), between(api.NOr, 0, 3))
	condIs(t, "true and false or *", yes, no, between(api.NAnd, 0, 1), pick, between(api.NOr, 2, 3))
	condIs(t, "[ true or false ] and *", yes, no, between(api.NOr, 0, 1), pick, between(api.NAnd, 2, 3))
	condIs(t, "true or [ false or * ]", yes, no, pick, between(api.NOr, 1, 2), between(api.NOr, 0, 3))
	condIs(t, "true and [ false and * ]", yes, no, pick, between(api.NAnd, 1, 2), between(api.NAnd, 0, 3))
	condIs(t, "not true and false", yes, above(api.NNot, 0), no, between(api.NAnd, 1, 2))
	condIs(t, "not [ true and false ]", yes, no, between(api.NAnd, 0, 1), above(api.NNot, 2))
	condIs(t, "true and not false or not *", yes, no, above(api.NNot, 1), between(api.NAnd, 0, 2), pick, above(api.NNot, 4), between(api.NOr, 3, 5))
}

// TestPicks: a * that begins a condition is no product's.
func TestPicks(t *testing.T) {
	pick := leaf(api.NPick)
	product := []api.Node{variable("a"), variable("b"), between(api.NMul, 0, 1), number(0), between(api.NLt, 2, 3)}
	condIs(t, "* and a * b < 0", pick, variable("a"), variable("b"), between(api.NMul, 1, 2), number(0), between(api.NLt, 3, 4), between(api.NAnd, 0, 5))
	condIs(t, "a * b < 0 and *", append(product, pick, between(api.NAnd, 4, 5))...)
	condIs(t, "* or * and [ * ]", pick, pick, pick, between(api.NAnd, 1, 2), between(api.NOr, 0, 3))
	condIs(t, "not *", pick, above(api.NNot, 0))
	for _, s := range []string{"assume *@* ;", "assume *@< 1 ;", "assume *@+ 1 < 1 ;", "assume *@a < 1 ;", "assume a <@* ;", "assume a + @* ;", "assume a * @* b < 1 ;", "assume (@* ) < 1 ;", "x =@* ;", "f ( @* ) ;"} {
		refusedAt(t, "proc m(){"+s+"}", api.ErrForm)
	}
}

// TestAllShapes: each small expression and condition, with no brackets but those that it needs, and with more.
func TestAllShapes(t *testing.T) {
	const most = 5
	for size := 1; size <= most; size++ {
		for _, s := range shapes(false, size) {
			exprIs(t, s.words(never), s.nodes(nil)...)
		}
		for _, s := range shapes(true, size) {
			condIs(t, s.words(never), s.nodes(nil)...)
		}
	}
	m := maker{rand.New(rand.NewSource(8))}
	for range 3 {
		for _, s := range shapes(false, 4) {
			exprIs(t, s.within(0, m.more), s.nodes(nil)...)
		}
		for _, s := range shapes(true, 5) {
			condIs(t, s.within(0, m.more), s.nodes(nil)...)
		}
	}
}

// TestPrograms: programs made by chance; T5: what stands between their tokens changes nothing.
func TestPrograms(t *testing.T) {
	m := maker{rand.New(rand.NewSource(82))}
	for range 3000 {
		p, words := m.prog()
		if s := strings.Join(words, " "); len(s) <= api.MaxText {
			programIs(t, "8.2", s, p)
		}
		if s := m.loose(words); len(s) <= api.MaxText {
			programIs(t, "T5", s, p)
		}
	}
}
