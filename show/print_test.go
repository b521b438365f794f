package show

import (
	"math/rand"
	"strings"
	"testing"

	"escarpment/api"
	"escarpment/lex"
	"escarpment/parse"
)

// 9.1: Print, and 9.3

func TestExample(t *testing.T) {
	printsAs(t, setTo(number(1), number(2), between(api.NAdd, 0, 1)), "proc m ( ) { x = 1 + 2 ; }")
	printsAs(t, parsed("proc m(){x=1+2;}"), "proc m ( ) { x = 1 + 2 ; }")
}

func TestProcedures(t *testing.T) {
	for want, p := range map[string]api.Proc{
		"proc m ( ) { }":                             {Name: "m"},
		"proc m ( a ) { }":                           {Name: "m", Params: []string{"a"}},
		"proc m ( b , a , b ) { }":                   {Name: "m", Params: []string{"b", "a", "b"}},
		"proc m ( ) -> r { }":                        {Name: "m", Result: "r"},
		"proc m ( ) { var x ; }":                     {Name: "m", Vars: []string{"x"}},
		"proc m ( ) { var y ; var x ; }":             {Name: "m", Vars: []string{"y", "x"}},
		"proc m ( m ) -> m { var m ; }":              {Name: "m", Params: []string{"m"}, Result: "m", Vars: []string{"m"}},
		"proc m ( ) { skip ; skip ; }":               {Name: "m", Body: []api.Stmt{{Kind: api.SSkip}, {Kind: api.SSkip}}},
		"proc a1_ ( b , c ) -> d { var e ; skip ; }": {Name: "a1_", Params: []string{"b", "c"}, Result: "d", Vars: []string{"e"}, Body: []api.Stmt{{Kind: api.SSkip}}},
	} {
		printsAs(t, procs(p), want)
		printsAs(t, procs(p, p), want+" "+want)
		printsAs(t, procs(api.Proc{Name: "z"}, p, api.Proc{Name: "z"}), "proc z ( ) { } "+want+" proc z ( ) { }")
	}
}

func TestStatements(t *testing.T) {
	one := []api.Node{number(1)}
	pick := []api.Node{leaf(api.NPick)}
	skip := []api.Stmt{{Kind: api.SSkip}}
	two := []api.Stmt{{Kind: api.SHavoc, Name: "a"}, {Kind: api.SHavoc, Name: "b"}}
	for want, s := range map[string]api.Stmt{
		"x = 1 ;":                  {Kind: api.SSet, Name: "x", E: one},
		"x = f ;":                  {Kind: api.SSet, Name: "x", E: []api.Node{variable("f")}},
		"havoc x ;":                {Kind: api.SHavoc, Name: "x"},
		"assume * ;":               {Kind: api.SAssume, E: pick},
		"assert * ;":               {Kind: api.SAssert, E: pick},
		"skip ;":                   {Kind: api.SSkip},
		"f ( ) ;":                  {Kind: api.SCall, Proc: "f"},
		"f ( 1 ) ;":                {Kind: api.SCall, Proc: "f", Args: [][]api.Node{one}},
		"f ( 1 , x , 1 ) ;":        {Kind: api.SCall, Proc: "f", Args: [][]api.Node{one, {variable("x")}, one}},
		"x = f ( ) ;":              {Kind: api.SCall, Name: "x", Proc: "f"},
		"x = x ( - x , 1 + 1 ) ;":  {Kind: api.SCall, Name: "x", Proc: "x", Args: [][]api.Node{{variable("x"), above(api.NNeg, 0)}, {number(1), number(1), between(api.NAdd, 0, 1)}}},
		"if * { }":                 {Kind: api.SIf, E: pick},
		"if * { skip ; }":          {Kind: api.SIf, E: pick, Body: skip},
		"if * { } else { skip ; }": {Kind: api.SIf, E: pick, Else: skip},
		"if * { havoc a ; havoc b ; } else { skip ; }": {Kind: api.SIf, E: pick, Body: two, Else: skip},
		"while * { }":                                  {Kind: api.SWhile, E: pick},
		"while * { havoc a ; havoc b ; }":              {Kind: api.SWhile, E: pick, Body: two},
		"either { } or { }":                            {Kind: api.SEither},
		"either { skip ; } or { }":                     {Kind: api.SEither, Body: skip},
		"either { } or { skip ; }":                     {Kind: api.SEither, Else: skip},
		"either { havoc a ; havoc b ; } or { skip ; }": {Kind: api.SEither, Body: two, Else: skip},
		"if * { if * { } else { skip ; } }":            {Kind: api.SIf, E: pick, Body: []api.Stmt{{Kind: api.SIf, E: pick, Else: skip}}},
		"if * { if * { } } else { skip ; }":            {Kind: api.SIf, E: pick, Body: []api.Stmt{{Kind: api.SIf, E: pick}}, Else: skip},
		"if * { } else { if * { } }":                   {Kind: api.SIf, E: pick, Else: []api.Stmt{{Kind: api.SIf, E: pick}}},
	} {
		printsAs(t, body(s), "proc m ( ) { "+want+" }")
		printsAs(t, body(s, s), "proc m ( ) { "+want+" "+want+" }")
		printsAs(t, body(api.Stmt{Kind: api.SWhile, E: pick, Body: []api.Stmt{s}}), "proc m ( ) { while * { "+want+" } }")
	}
}

// TestElse: an else without statements is none; its braces are not told.
func TestElse(t *testing.T) {
	s := api.Stmt{Kind: api.SIf, E: []api.Node{leaf(api.NPick)}}
	for _, none := range [][]api.Stmt{nil, {}, make([]api.Stmt, 0, 5)} {
		s.Else = none
		printsAs(t, body(s), "proc m ( ) { if * { } }")
	}
	printsAs(t, parsed("proc m ( ) { if * { } else { } }"), "proc m ( ) { if * { } }")
	printsAs(t, parsed("proc m ( ) { if * { skip ; } else { } skip ; }"), "proc m ( ) { if * { skip ; } skip ; }")
}

// exprIs and condIs hold what is printed of the tree of a source, wherever it may stand.
func exprIs(t *testing.T, source, want string) {
	t.Helper()
	for _, ends := range [][]string{{"x = ", " ;"}, {"f ( ", " ) ;"}, {"x = f ( 1 , ", " , 2 ) ;"}} {
		printsAs(t, parsed("proc m ( ) { "+ends[0]+source+ends[1]+" }"), "proc m ( ) { "+ends[0]+want+ends[1]+" }")
	}
}

func condIs(t *testing.T, source, want string) {
	t.Helper()
	for _, ends := range [][]string{{"assume ", " ;"}, {"assert ", " ;"}, {"if ", " { }"}, {"if ", " { } else { skip ; }"}, {"while ", " { }"}} {
		printsAs(t, parsed("proc m ( ) { "+ends[0]+source+ends[1]+" }"), "proc m ( ) { "+ends[0]+want+ends[1]+" }")
	}
}

func TestExpressions(t *testing.T) {
	for _, alone := range []string{"0", "7", "999999999", "a", "abcdefghijklmnop", "- a", "- 0"} {
		exprIs(t, alone, alone)
		exprIs(t, "(("+alone+"))", alone)
	}
	exprIs(t, "--a", "- ( - a )")
	exprIs(t, "---1", "- ( - ( - 1 ) )")
	exprIs(t, "-(a)", "- a")
	for _, sign := range []string{"+", "-", "*", "/", "%"} {
		exprIs(t, "a"+sign+"1", "a "+sign+" 1")
		exprIs(t, "(1)"+sign+"((a))", "1 "+sign+" a")
		exprIs(t, "a"+sign+"-b", "a "+sign+" ( - b )")
		exprIs(t, "-a"+sign+"b", "( - a ) "+sign+" b")
		exprIs(t, "-(a"+sign+"b)", "- ( a "+sign+" b )")
		exprIs(t, "a"+sign+"b"+sign+"c", "( a "+sign+" b ) "+sign+" c")
		exprIs(t, "a"+sign+"(b"+sign+"c)", "a "+sign+" ( b "+sign+" c )")
		exprIs(t, "(a"+sign+"b)"+sign+"(c"+sign+"1)", "( a "+sign+" b ) "+sign+" ( c "+sign+" 1 )")
	}
	exprIs(t, "a+b*c", "a + ( b * c )")
	exprIs(t, "a*b+c", "( a * b ) + c")
	exprIs(t, "(a+b)*c", "( a + b ) * c")
	exprIs(t, "1-2+3%4/5", "( 1 - 2 ) + ( ( 3 % 4 ) / 5 )")
}

func TestConditions(t *testing.T) {
	for _, alone := range []string{"true", "false", "*", "not *", "not true", "not a < 1", "a == b"} {
		condIs(t, alone, alone)
		condIs(t, "[["+alone+"]]", alone)
	}
	condIs(t, "not not *", "not [ not * ]")
	condIs(t, "not not not true", "not [ not [ not true ] ]")
	for _, sign := range []string{"==", "!=", "<", "<=", ">", ">="} {
		condIs(t, "a"+sign+"1", "a "+sign+" 1")
		condIs(t, "(1)"+sign+"((a))", "1 "+sign+" a")
		condIs(t, "-a"+sign+"-1", "( - a ) "+sign+" ( - 1 )")
		condIs(t, "a+1"+sign+"b*2%c", "( a + 1 ) "+sign+" ( ( b * 2 ) % c )")
		condIs(t, "not a"+sign+"b", "not a "+sign+" b")
		condIs(t, "not[a-b"+sign+"b]", "not ( a - b ) "+sign+" b")
		condIs(t, "a"+sign+"b and b"+sign+"a", "a "+sign+" b and b "+sign+" a")
		condIs(t, "a"+sign+"b or[b"+sign+"a]", "a "+sign+" b or b "+sign+" a")
	}
	for _, leaf := range []string{"true", "false", "*"} {
		for _, word := range []string{"and", "or"} {
			condIs(t, leaf+" "+word+" "+leaf, leaf+" "+word+" "+leaf)
			condIs(t, "["+leaf+"]"+word+"["+leaf+"]", leaf+" "+word+" "+leaf)
			condIs(t, "not "+leaf+" "+word+" "+leaf, "[ not "+leaf+" ] "+word+" "+leaf)
			condIs(t, leaf+" "+word+" not "+leaf, leaf+" "+word+" [ not "+leaf+" ]")
			condIs(t, "not["+leaf+" "+word+" 1<2]", "not [ "+leaf+" "+word+" 1 < 2 ]")
			condIs(t, leaf+" "+word+" * "+word+" false", "[ "+leaf+" "+word+" * ] "+word+" false")
			condIs(t, leaf+" "+word+"[ * "+word+" false]", leaf+" "+word+" [ * "+word+" false ]")
		}
	}
	condIs(t, "true or false and *", "true or [ false and * ]")
	condIs(t, "true and false or *", "[ true and false ] or *")
	condIs(t, "[true or false]and *", "[ true or false ] and *")
	condIs(t, "not[a<b and c<d]or not a+1!=b", "[ not [ a < b and c < d ] ] or [ not ( a + 1 ) != b ]")
}

// longest is a right program that has a text of so many bytes.
func longest(length int) api.Prog {
	p := body()
	left := length - len("proc m ( ) { }")
	put := func(s api.Stmt) {
		p.Procs[0].Body = append(p.Procs[0].Body, s)
		left -= 1 + len(spelling{}.stmt(s))
	}
	for left > 200 {
		put(api.Stmt{Kind: api.SAssert, E: []api.Node{leaf(api.NTrue)}})
		put(api.Stmt{Kind: api.SHavoc, Name: "abcdefghijklmnop"})
	}
	for left >= 14 {
		put(api.Stmt{Kind: api.SSkip})
	}
	p.Procs[0].Name += strings.Repeat("n", left)
	return p
}

func TestLongest(t *testing.T) {
	for length := api.MaxText - 40; length <= api.MaxText; length++ {
		p := longest(length)
		want := spelling{}.prog(p)
		if len(want) != length {
			t.Fatal("a text of another length:", len(want))
		}
		printsAs(t, p, want)
	}
	for length := api.MaxText + 1; length < api.MaxText+40; length++ {
		isLong(t, longest(length))
	}
	isLong(t, longest(2*api.MaxText))
	isLong(t, longest(10*api.MaxText))
	p := longest(api.MaxText)
	p.Procs[0].Name += "n"
	isLong(t, p)
	// Each token in turn is the first that finds no room.
	for _, tail := range samples() {
		for length := api.MaxText - len(tail) - 3; length <= api.MaxText; length++ {
			p := longest(length)
			p.Procs = append(p.Procs, parsed(tail).Procs...)
			if length+1+len(tail) <= api.MaxText {
				printsAs(t, p, spelling{}.prog(p))
			} else {
				isLong(t, p)
			}
		}
	}
}

func isLong(t *testing.T, p api.Prog) {
	t.Helper()
	if s, e := Print(p); e != api.ErrLong || s != "" || !Right(p) {
		t.Errorf("9.1: Print of what is too long: %v %q, Right %v", e, brief(s), Right(p))
	}
}

// TestLongAndWrong: of the two ErrArg counts.
func TestLongAndWrong(t *testing.T) {
	for _, length := range []int{api.MaxText, api.MaxText + 1, 3 * api.MaxText} {
		p := longest(length)
		last := len(p.Procs[0].Body) - 1
		p.Procs[0].Body[last].Args = [][]api.Node{nil}
		isWrong(t, p)
		p = longest(length)
		p.Procs = append(p.Procs, api.Proc{})
		isWrong(t, p)
	}
}

// TestFarTooLong: what is told once, and stands in many places, may be far longer than what is kept.
func TestFarTooLong(t *testing.T) {
	s := api.Stmt{Kind: api.SSkip}
	for range 4 {
		s = api.Stmt{Kind: api.SEither, Body: []api.Stmt{s, s, s, s, s, s, s, s}, Else: []api.Stmt{s, s, s, s, s, s, s, s}}
	}
	isLong(t, body(s))
	var args [][]api.Node
	for range 100000 {
		args = append(args, []api.Node{number(1)})
	}
	isLong(t, passing(args...))
	isLong(t, procs(api.Proc{Name: "m", Vars: strings.Fields(strings.Repeat("v ", 100000))}))
}

// TestBlanks: tokens with one blank between, and no blank at either end.
func TestBlanks(t *testing.T) {
	m := maker{rand.New(rand.NewSource(91))}
	for range 500 {
		s, _ := Print(m.prog())
		tokens, _, _ := lex.Lex(s)
		var words []string
		for _, token := range tokens[:len(tokens)-1] {
			words = append(words, token.Text)
		}
		if strings.Join(words, " ") != s {
			t.Errorf("9.1: blanks of %s", brief(s))
		}
	}
}

// TestPrograms: 9.3, of programs made by chance; T5: brackets, blanks and remarks of a source change nothing.
func TestPrograms(t *testing.T) {
	m := maker{rand.New(rand.NewSource(93))}
	for range 3000 {
		p := m.prog()
		want := spelling{}.prog(p)
		printsAs(t, p, want)
		source := m.loose(spelling{func() bool { return m.Intn(3) == 0 }}.prog(p))
		q, e, _ := parse.Prog(source)
		if e == api.ErrLong || e == api.ErrDeep {
			continue
		}
		if s, f := Print(q); e != api.OK || f != api.OK || s != want || !Same(p, q) {
			t.Errorf("T5: of %s\n%v %v %s, want\n%s", brief(source), e, f, brief(s), brief(want))
		}
	}
}

// loose puts this or that for each blank.
func (m maker) loose(s string) string {
	var l strings.Builder
	for _, word := range strings.Fields(s) {
		l.WriteString(word + []string{" ", "\n", "\t\r\n ", " # x = ( [\n", "#\n"}[m.Intn(5)])
	}
	return l.String()
}
