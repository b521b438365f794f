package parse

import (
	"math/rand"
	"slices"
	"strings"
	"testing"

	"escarpment/api"
	"escarpment/lex"
)

// 8.1

func TestNoText(t *testing.T) {
	for _, s := range []string{"", " ", "\n", "\t\r\n ", "#", "# proc m(){}", "#\n\n"} {
		isRefused(t, s, api.ErrForm, len(s))
	}
}

// TestCannotStand: of each rule of the grammar tokens that cannot stand there.
func TestCannotStand(t *testing.T) {
	for _, s := range []string{
		"@m", "@{", "@1", "@var x ;", "@skip ;", "proc @( ) { }", "proc @1 ( ) { }", "proc @while ( ) { }", "proc m @{ }", "proc m @m ( ) { }",
		"proc m ( @, ) { }", "proc m ( a @b ) { }", "proc m ( a , @) { }", "proc m ( @1 ) { }", "proc m ( @( ) ) { }", "proc m ( a , @, b ) { }", "proc m ( a @; b ) { }", "proc m ( @if ) { }",
		"proc m ( ) -> @{ }", "proc m ( ) -> @1 { }", "proc m ( ) -> r @, s { }", "proc m ( ) @r { }", "proc m ( ) @- > r { }", "proc m ( ) -> r @-> s { }", "proc m ( ) @; { }",
		"proc m ( ) { } @}", "proc m ( ) { } @;", "proc m ( ) { } @m", "proc m ( ) { } proc @proc", "proc m ( ) { } @skip ;",
	} {
		refusedAt(t, s, api.ErrForm)
	}
	for _, s := range []string{"var @1 ;", "var x @, y ;", "var x @= 1 ;", "var @;", "var @var ;", "var x @}", "var x ; skip ; @var y ;"} {
		refusedAt(t, inside(s), api.ErrForm)
		refusedAt(t, inside("var y ; "+s), api.ErrForm)
	}
	for _, s := range []string{
		"@proc f ( ) { }", "@{ }", "@;", "@1 = x ;", "@( x ) ;", "@else { }", "@or { }", "@true ;", "@not * ;", "@* ;",
		"x @;", "x @+ 1 ;", "x @== 1 ;", "x @x ;", "x = @;", "x = @= 1 ;", "x = 1 @= 1 ;", "x = 1 @1 ;", "x = 1 @x ;", "x = 1 @}", "x = 1 @, 1 ;", "x = @true ;", "x = @[ 1 ] ;", "x = @not x ;", "x = 1 @< 2 ;", "x = 1 @and 2 ;", "x = x @= 1 ;",
		"x = 1 + @;", "x = 1 + @+ 1 ;", "x = 1 * @* 1 ;", "x = 1 - @/ 1 ;", "x = @+ 1 ;", "x = - @;", "x = - @+ 1 ;", "x = - @true ;", "x = 1 % @) ;", "x = @/ 1 ;", "x = @% 1 ;", "x = 1 @-> 1 ;",
		"x = ( @) ;", "x = ( 1 @;", "x = ( 1 @] ;", "x = ( 1 @, 2 ) ;", "x = 1 @) ;", "x = ( 1 ) @) ;", "x = ( 1 ) @( 2 ) ;", "x = ( 1 @< 2 ) ;", "x = ( x @( 1 ) ) ;", "x = 1 + f @( 1 ) ;", "x = ( f ) @( ) ;", "x = 1 @( ) ;", "x = - f @( ) ;",
		"f ( @;", "f ( @, 1 ) ;", "f ( 1 , @) ;", "f ( 1 @1 ) ;", "f ( 1 @; ) ;", "f ( 1 @< 2 ) ;", "f ( @true ) ;", "f ( x @= 1 ) ;", "f ( x @( ) ) ;", "f ( 1 @] ;", "f ( ) @+ 1 ;", "f ( ) @= 1 ;", "f ( ) @( ) ;", "f ( ) @}", "x = f ( ) @+ 1 ;", "x = f ( ) @f ( ) ;", "x = f ( 1 , @, 2 ) ;", "x = y @= f ( ) ;", "f @[ 1 ] ;",
		"havoc @;", "havoc @1 ;", "havoc x @, y ;", "havoc x @= 1 ;", "havoc @* ;", "havoc @( x ) ;", "havoc x @}", "skip @skip ;", "skip @x ;", "skip @( ) ;", "skip @}",
		"assume @;", "assume x @;", "assume 1 @;", "assume x + 1 @;", "assume ( x ) @;", "assume ( x @< 1 ) ;", "assume ( @true ) ;", "assume x < @;", "assume x < @< 1 ;", "assume x < 1 @< 2 ;", "assume x == 1 @== 1 ;", "assume x @= 1 ;", "assume x < @true ;", "assume true @< 1 ;", "assume true @== true ;", "assume x < 1 @}", "assume x < 1 @, y ;", "assume x < @not y ;", "assume x < @[ y ] ;",
		"assert @;", "assert x @;", "assert true @true ;", "assert true @not true ;", "assert true @, ;", "assert * @x ;", "assert @and * ;", "assert @or * ;", "assert * and @;", "assert * or @;", "assert * and @or * ;", "assert * or @and * ;", "assert * and x @or * ;", "assert not @;", "assert not @and * ;", "assert not x @;", "assert * @not * ;",
		"assert [ @] ;", "assert [ x @] ;", "assert [ * @; ] ;", "assert [ * @) ;", "assert [ * ] @] ;", "assert [ * ] @[ * ] ;", "assert [ x < y ] @< 1 ;", "assert [ * @, * ] ;", "assert * @] ;", "assert [ x + @[ y ] ] ;", "assert @) ;", "assert @{ } ;",
		"if @{ }", "if x @{ }", "if * @skip ;", "if * @;", "if * @else { }", "if x < y @skip ;", "if ( x @< y ) { }", "if * { } else @skip ;", "if * { } else @if * { }", "if * { } else { } @else { }", "if * { } @or { }", "if * { } @;", "if * { @var x ; }", "if * { skip ; @else { } }", "if * { skip ; } else { } @;", "if * @( ) { }",
		"while @{ }", "while x @{ }", "while * @skip ;", "while * { } @else { }", "while * { } @;", "while * @do { }", "while * { @var x ; }", "while ( x ) @{ }",
		"either @* { }", "either @skip ;", "either { } @{ }", "either { } @}", "either { } @;", "either { } @else { }", "either { } or @;", "either { } or @or { }", "either { } or @* { }", "either { } or { } @or { }", "either { } or { } @else { }", "either { } @and { }", "either { @var x ; } or { }",
	} {
		refusedAt(t, inside(s), api.ErrForm)
		refusedAt(t, inside("skip ; "+s), api.ErrForm)
		refusedAt(t, inside("while * { "+s+" }"), api.ErrForm)
		refusedAt(t, "proc f ( ) -> r { } # proc\n"+inside(s)+" proc", api.ErrForm)
	}
}

// TestEndsTooSoon: a program but for its last tokens.
func TestEndsTooSoon(t *testing.T) {
	s := "proc f(a,b)->r{var v;r=-a*(b+1);if not[a<b or*]and true{skip;}else{while a>=1{f(1,2);x=f(b);}}either{havoc a;}or{assume a==b;assert a!=b;}}"
	isTaken(t, s)
	tokens, _, _ := lex.Lex(s)
	for _, token := range tokens[:len(tokens)-1] {
		isRefused(t, s[:token.At], api.ErrForm, token.At)
		isRefused(t, s[:token.At]+" # }", api.ErrForm, token.At+4)
		isRefused(t, s[:token.At]+" ?", api.ErrWord, token.At+1)
	}
}

// TestErrorsOfTokens: layer 7's error counts wherever it stands, and whatever else is wrong.
func TestErrorsOfTokens(t *testing.T) {
	refusedAt(t, "@?", api.ErrWord)
	refusedAt(t, "@? proc", api.ErrWord)
	refusedAt(t, "proc m(){x=@01;}", api.ErrWord)
	refusedAt(t, "proc m(){x=@1234567890;}", api.ErrLong)
	refusedAt(t, "proc m(){@abcdefghijklmnopq=1;}", api.ErrLong)
	refusedAt(t, "proc m(){x=1;@_}", api.ErrWord)
	for _, wrong := range []string{"x", "proc proc", "proc m(){", "proc m(){x=1 2;}", "proc m(){x=" + strings.Repeat("(", 60), "proc m(){}", ""} {
		refusedAt(t, wrong+" @?", api.ErrWord)
		refusedAt(t, wrong+" @00 ?", api.ErrWord)
		refusedAt(t, wrong+" @abcdefghijklmnopq", api.ErrLong)
		refusedAt(t, "@! "+wrong, api.ErrWord)
		refusedAt(t, "@1234567890 "+wrong, api.ErrLong)
		long := wrong + strings.Repeat(" ", api.MaxText+1)
		isRefused(t, long, api.ErrLong, api.MaxText)
		isRefused(t, "?"+long, api.ErrLong, api.MaxText)
	}
	isTaken(t, "proc m(){}"+strings.Repeat(" ", api.MaxText-10))
	isRefused(t, "proc m(){}"+strings.Repeat(" ", api.MaxText-9), api.ErrLong, api.MaxText)
	isRefused(t, strings.Repeat("x", api.MaxText+1), api.ErrLong, api.MaxText)
	isRefused(t, strings.Repeat("x", api.MaxText), api.ErrLong, 0)
}

// nest is something that is one deeper: what begins it, with a mark ahead of the first token that opens, and what ends it.
type nest struct{ begin, end string }

func (n nest) opens() string { return strings.Replace(n.begin, "@", "", 1) }

func (n nest) times(count int, inner string) string {
	return strings.Repeat(n.opens(), count) + inner + strings.Repeat(n.end, count)
}

func blocks() []nest {
	return []nest{
		{"if * @{ ", "} "}, {"if * @{ ", "} else { } "}, {"if * @{ } else { ", "} "}, {"while * @{ ", "} "}, {"either @{ ", "} or { } "}, {"either @{ } or { ", "} "},
		{"if x < @( 1 ) { skip ; ", "} skip ; "}, {"while @[ * ] { ", "} x = ( 1 ) ; "},
	}
}

func conditions() []nest {
	return []nest{{"@not ", ""}, {"@[ ", "] "}, {"* and @[ ", "] and * "}, {"* or @[ ", "] or * "}, {"@[ * ] or [ x < 1 and ", "] "}}
}

func expressions() []nest {
	return []nest{{"@( ", ") "}, {"@- ", ""}, {"1 + @( ", ") "}, {"x - @( ", "- 1 ) "}, {"@( 1 ) - ( ", ") "}, {"@- x + ( ", ") "}}
}

// deepest holds n, with so many more open around it, at the deepest and one deeper; what is inmost opens nothing.
func (n nest) deepest(t *testing.T, around int, head, inmost, tail string) {
	t.Helper()
	room := 50 - around
	isTaken(t, head+n.times(room, inmost)+tail)
	isTaken(t, head+n.times(room-1, inmost)+tail)
	over := head + n.times(room+1, inmost) + tail
	at := len(head) + room*len(n.opens()) + strings.Index(n.begin, "@")
	isRefused(t, over, api.ErrDeep, at)
	isRefused(t, head+n.times(room+5, inmost)+tail, api.ErrDeep, at)
	// The token that opens too much is refused whatever stands behind it, and whether it ends.
	open := len(n.begin[strings.Index(n.begin, "@")+1:])
	isRefused(t, over[:at]+strings.TrimSpace(over[at:at+open]), api.ErrDeep, at)
	isRefused(t, over[:at]+over[at:at+open]+" ; ; proc", api.ErrDeep, at)
	// Ahead of it another token counts.
	isRefused(t, over[:at]+"proc "+over[at:], api.ErrForm, at)
}

func TestDeepest(t *testing.T) {
	if api.MaxNest != 50 {
		t.Fatal("api.MaxNest:", api.MaxNest)
	}
	for _, n := range blocks() {
		n.deepest(t, 0, "proc m ( ) { ", "skip ; ", "}")
		n.deepest(t, 0, "proc m ( a ) -> r { var v ; ", "", "} proc f ( ) { }")
		n.deepest(t, 0, "proc f ( ) { x = - ( 1 ) ; } proc m ( ) { x = f ( 1 ) ; ", "f ( 1 ) ; ", "}")
		n.deepest(t, 1, "proc m ( ) { while * { ", "assert * ; ", "} }")
	}
	for _, n := range conditions() {
		for _, ends := range [][]string{{"assume ", "; "}, {"assert ", "; "}, {"if ", "{ } "}, {"while ", "{ skip ; } "}} {
			n.deepest(t, 0, "proc m ( ) { "+ends[0], "* ", ends[1]+"}")
			n.deepest(t, 0, "proc m ( ) { "+ends[0], "x < 1 ", ends[1]+"}")
			n.deepest(t, 2, "proc m ( ) { while * { if * { } else { "+ends[0], "true ", ends[1]+"} } }")
		}
	}
	for _, n := range expressions() {
		for _, ends := range [][]string{{"x = ", "; "}, {"f ( ", ") ; "}, {"x = f ( 1 , ", ") ; "}, {"assume 1 < ", "; "}, {"if true and ", "< 1 { } "}} {
			n.deepest(t, 0, "proc m ( ) { "+ends[0], "x ", ends[1]+"}")
			n.deepest(t, 0, "proc m ( ) { while * { x = ( 1 ) ; } "+ends[0], "1 ", ends[1]+"}")
			n.deepest(t, 1, "proc m ( ) { either { } or { "+ends[0], "1 ", ends[1]+"} }")
		}
		n.deepest(t, 3, "proc m ( ) { if * { assert not [ ", "1 ", "== 1 ] ; } }")
	}
}

// TestDeepestOfAllKinds: each kind within each other.
func TestDeepestOfAllKinds(t *testing.T) {
	for _, b := range blocks() {
		for _, c := range conditions() {
			for _, e := range expressions() {
				for n := 1; n < 50; n += 7 {
					head := "proc m ( ) { " + strings.Repeat(b.opens(), n)
					tail := strings.Repeat(b.end, n) + "}"
					c.deepest(t, n, head+"assume ", "* ", "; "+tail)
					e.deepest(t, n, head+"x = ", "1 ", "; "+tail)
					m := min(n, 49-n)
					e.deepest(t, n+m, head+"assert "+strings.Repeat(c.opens(), m), "1 ", "< 1 "+strings.Repeat(c.end, m)+"; "+tail)
				}
			}
		}
	}
}

// TestNotDeeper: what is shut, and what is no block, leaves room.
func TestNotDeeper(t *testing.T) {
	r := strings.Repeat
	for _, s := range []string{
		r("skip ; ", 500), r("x = ( 1 ) ; ", 200), r("if * { } ", 200), r("if * { } else { } ", 100), r("either { } or { } ", 100), r("while * { } ", 200),
		"x = " + r("- 1 - ", 300) + "1 ;", "x = " + r("( 1 ) * ", 300) + "1 ;", "x = " + r("1 + ", 1500) + "1 ;", "assume " + r("not * and ", 300) + "* ;", "assume " + r("[ * ] or ", 300) + "* ;",
		"f ( " + r("- 1 , ", 300) + "1 ) ;", "f ( " + r("( 1 ) , ", 300) + "1 ) ;", "assume not x < 1 and " + nest{"@[ ", "] "}.times(50, "*") + ";", "assume - x < " + nest{"@( ", ") "}.times(50, "1") + ";",
		"assume - 1 < " + r("- ", 50) + "1 ;", "assume not * or " + r("not ", 50) + "* ;", "f ( " + r("- ", 50) + "1 , " + r("- ", 50) + "1 ) ;", "if [ * ] " + nest{"@{ if * ", "} "}.times(49, "{ } "),
		"x = - 1 + " + r("( ", 50) + "1 " + r(") ", 50) + ";", "x = " + r("- ", 50) + "1 - " + r("- ", 50) + "1 ;", "x = ( " + r("- ", 49) + "1 ) * " + r("( ", 50) + "1 " + r(") ", 50) + ";",
	} {
		isTaken(t, inside(s))
	}
	isTaken(t, r("proc m ( ) { } ", 500))
	isTaken(t, "proc m("+r("a,", 2000)+"a){"+r("var v;", 500)+"}")
}

// TestWhichCounts: of ErrForm and ErrDeep in one text the one that stands first.
func TestWhichCounts(t *testing.T) {
	r := strings.Repeat
	refusedAt(t, "proc m(){x="+r("(", 50)+"@(1 2;", api.ErrDeep)
	refusedAt(t, "proc m(){x=@;x="+r("(", 51), api.ErrForm)
	refusedAt(t, "proc m(){x="+r("(", 50)+"@)"+r("(", 9), api.ErrForm)
	refusedAt(t, "proc m(){x="+r("-", 50)+"@-;", api.ErrDeep)
	refusedAt(t, "proc m(){x="+r("-", 50)+"@;-", api.ErrForm)
	refusedAt(t, "proc m(){assume "+r("not ", 50)+"@not ;", api.ErrDeep)
	refusedAt(t, "proc m(){assume "+r("[", 50)+"@[", api.ErrDeep)
	refusedAt(t, "proc m(){assume "+r("[", 50)+"@]", api.ErrForm)
	refusedAt(t, "proc m(){assume "+r("[", 50)+"@(x", api.ErrDeep)
	// What opens one too many where it cannot stand at all is ErrForm.
	refusedAt(t, "proc m(){x="+r("(", 50)+"@[", api.ErrForm)
	refusedAt(t, "proc m(){x="+r("(", 50)+"@not", api.ErrForm)
	refusedAt(t, "proc m(){x="+r("(", 50)+"1@(", api.ErrForm)
	refusedAt(t, "proc m(){x="+r("(", 50)+"f@(", api.ErrForm)
	refusedAt(t, "proc m(){x="+r("(", 50)+"@{", api.ErrForm)
	refusedAt(t, "proc m(){assume "+r("[", 50)+"*@[", api.ErrForm)
	refusedAt(t, "proc m(){assume "+r("[", 50)+"*@not", api.ErrForm)
	refusedAt(t, "proc m(){"+r("if*{", 50)+"@{", api.ErrForm)
	refusedAt(t, "proc m(){"+r("if*{", 50)+"@[", api.ErrForm)
	refusedAt(t, "proc m(){"+r("if*{", 50)+"if @{", api.ErrForm)
	refusedAt(t, "proc m(){"+r("if*{", 50)+"}@{", api.ErrForm)
	// A - between two operands opens nothing, nor does a call's bracket, nor a procedure's brace.
	isTaken(t, "proc m(){x="+r("(", 50)+"1-1"+r(")", 50)+";}")
	isTaken(t, "proc m(){"+r("if*{", 50)+"f(1);x=f(1-1);"+r("}", 50)+"}")
	refusedAt(t, "proc m(){"+r("if*{", 50)+"x=f(1,@(1));", api.ErrDeep)
	refusedAt(t, "proc m(){"+r("if*{", 50)+"x=f(1-@-1);", api.ErrDeep)
	refusedAt(t, "proc m(){"+r("if*{", 50)+"if @[*]{}", api.ErrDeep)
	refusedAt(t, "proc m(){"+r("if*{", 50)+"if *@{}", api.ErrDeep)
	refusedAt(t, "proc m(){"+r("if*{", 49)+"if*{}else{either@{}", api.ErrDeep)
	refusedAt(t, "proc m(){"+r("if*{", 50)+"}else{while*@{}", api.ErrDeep)
	refusedAt(t, "proc f(){"+r("if*{", 50)+r("}", 51)+"proc m(){"+r("if*{", 50)+"either@{", api.ErrDeep)
}

// TestEachTokenEverywhere: behind each token of a program each kind of token.
func TestEachTokenEverywhere(t *testing.T) {
	g := readRules()
	s := "proc f(a,b)->r{var v;var w;r=-a*(b+1)%2/3;f();f(1,2-a);if not[a<b or*]and true or false{skip;}else{while a>=1{x=f(b);}}either{havoc a;}or{assume a==b;assert not a!=b+1;}}proc m(){if*{}if a>b{}x=y;}"
	tokens, _, _ := lex.Lex(s)
	c := begin(g)
	for n, token := range tokens {
		expectEachNext(t, c, s[:token.At])
		if n < len(tokens)-1 {
			c = c.behind(sort(token))
		}
	}
}

// expectEachNext holds Prog of s and one token more, of which c tells what may stand there. Behind what may, the text
// ends too soon or not; behind what may not, all else is one.
func expectEachNext(t *testing.T, c chart, s string) {
	t.Helper()
	may := c.may()
	s += " "
	if !may[""] {
		isRefused(t, s, api.ErrForm, len(s))
	} else {
		isTaken(t, s)
	}
	for _, text := range kinds() {
		tokens, _, _ := lex.Lex(text)
		switch {
		case !may[sort(tokens[0])]:
			isRefused(t, s+text, api.ErrForm, len(s))
			isRefused(t, s+text+" }", api.ErrForm, len(s))
		case c.behind(sort(tokens[0])).may()[""]:
			isTaken(t, s+text)
		default:
			isRefused(t, s+text, api.ErrForm, len(s)+len(text))
		}
	}
}

// TestAllShortTexts: all beginnings of some length, of which but the last token can stand.
func TestAllShortTexts(t *testing.T) {
	g := readRules()
	for _, head := range []struct {
		text string
		more int
	}{{"", 3}, {"proc m", 4}, {"proc m ( ) {", 2}, {"proc m ( ) { x", 3}, {"proc m ( ) { x = x", 2}, {"proc m ( ) { assume", 2}, {"proc m ( ) { if * { }", 3}, {"proc m ( ) { either { } or {", 2}} {
		c := begin(g)
		tokens, _, _ := lex.Lex(head.text)
		for _, token := range tokens[:len(tokens)-1] {
			c = c.behind(sort(token))
		}
		expectAllNext(t, c, head.text, head.more)
	}
}

func expectAllNext(t *testing.T, c chart, s string, more int) {
	expectEachNext(t, c, s)
	if more == 0 {
		return
	}
	may := c.may()
	for _, text := range kinds() {
		tokens, _, _ := lex.Lex(text)
		if token := sort(tokens[0]); may[token] {
			expectAllNext(t, c.behind(token), s+" "+text, more-1)
		}
	}
}

// TestSpoiltPrograms: programs with some tokens taken out, put in, or changed.
func TestSpoiltPrograms(t *testing.T) {
	g := readRules()
	m := maker{rand.New(rand.NewSource(81))}
	for range 1500 {
		_, words := m.prog()
		for range m.Intn(4) {
			at := m.Intn(len(words))
			other := kinds()[m.Intn(len(kinds()))]
			switch m.Intn(4) {
			case 0:
				words = slices.Delete(words, at, at+1)
			case 1:
				words = slices.Insert(words, at, other)
			case 2:
				words[at] = other
			case 3:
				to := m.Intn(len(words))
				words[at], words[to] = words[to], words[at]
			}
			if len(words) == 0 {
				words = []string{"1"}
			}
		}
		expectAsByGrammar(t, g, m.loose(words))
	}
}

// TestDeepWalks: texts that go on by chance with what may stand there, mostly deeper.
func TestDeepWalks(t *testing.T) {
	g := readRules()
	m := maker{rand.New(rand.NewSource(50))}
	for range 200 {
		expectAsByGrammar(t, g, m.walk(begin(g), 20+m.Intn(250), 3+m.Intn(5)))
	}
}

// walk tells so many tokens, so often out of ten one that opens.
func (m maker) walk(c chart, count, often int) string {
	var words []string
	for len(words) < count {
		text := kinds()[m.Intn(len(kinds()))]
		if m.Intn(10) < often {
			text = strings.Fields("( [ { not - if while either")[m.Intn(8)]
		}
		tokens, _, _ := lex.Lex(text)
		if token := sort(tokens[0]); c.may()[token] {
			words = append(words, text)
			c = c.behind(token)
		}
	}
	return strings.Join(words, " ")
}
