package show

import (
	"math"
	"math/rand"
	"reflect"
	"strings"
	"testing"

	"escarpment/api"
	"escarpment/parse"
)

// 9.1: Right

func TestNoProcedure(t *testing.T) {
	isWrong(t, api.Prog{})
	isWrong(t, procs())
	isWrong(t, procs(api.Proc{}))
	isWrong(t, procs(api.Proc{Name: "m"}, api.Proc{}))
	isRight(t, procs(api.Proc{Name: "m"}))
	isRight(t, procs(api.Proc{Name: "m"}, api.Proc{Name: "m"}))
}

// named are programs with a name at each place where one stands.
func named(s string) map[string]api.Prog {
	pick := []api.Node{leaf(api.NPick)}
	return map[string]api.Prog{
		"a procedure's":        procs(api.Proc{Name: s}),
		"a later procedure's":  procs(api.Proc{Name: "m"}, api.Proc{Name: s}),
		"a parameter's":        procs(api.Proc{Name: "m", Params: []string{s}}),
		"a later parameter's":  procs(api.Proc{Name: "m", Params: []string{"a", s, "b"}}),
		"a result's":           procs(api.Proc{Name: "m", Result: s}),
		"a variable's":         procs(api.Proc{Name: "m", Vars: []string{s}}),
		"a later variable's":   procs(api.Proc{Name: "m", Vars: []string{"a", "b", s}}),
		"what is set":          body(api.Stmt{Kind: api.SSet, Name: s, E: []api.Node{number(1)}}),
		"what is drawn":        body(api.Stmt{Kind: api.SHavoc, Name: s}),
		"what is called":       body(api.Stmt{Kind: api.SCall, Proc: s}),
		"what a call sets":     body(api.Stmt{Kind: api.SCall, Name: s, Proc: "f"}),
		"a node's":             setTo(variable(s)),
		"a node's below":       setTo(variable("a"), variable(s), between(api.NAdd, 0, 1)),
		"a node's of a truth":  assuming(variable(s), number(1), between(api.NLt, 0, 1)),
		"an argument's":        passing([]api.Node{variable(s)}),
		"a later argument's":   passing([]api.Node{number(1)}, []api.Node{variable(s)}),
		"one in a block":       body(api.Stmt{Kind: api.SWhile, E: pick, Body: []api.Stmt{{Kind: api.SHavoc, Name: s}}}),
		"one in another block": body(api.Stmt{Kind: api.SIf, E: pick, Else: []api.Stmt{{Kind: api.SHavoc, Name: s}}}),
		"one in an or's":       body(api.Stmt{Kind: api.SEither, Else: []api.Stmt{{Kind: api.SHavoc, Name: s}}}),
	}
}

func TestNames(t *testing.T) {
	for _, s := range []string{"x", "z", "a1", "a_", "a_b_1", "abcdefghijklmnop", "z999999999999999", "a_______________", "ifx", "proc1", "or_", "tru", "i"} {
		for where, p := range named(s) {
			if !Right(p) {
				t.Errorf("9.1: Right is false with the name %q, %s", s, where)
			}
			isRight(t, p)
		}
	}
	wrong := []string{"abcdefghijklmnopq", strings.Repeat("a", 9000), "X", "aB", "1", "1a", "_", "_a", "a b", " a", "a ", "\ta", "a\n", "a\r", "a#", "#a", "#", " ", ";", "a;", "a,b", "a , b", "(", "a(", "-a", "*", "é", "aé", "\x00", "a\x00", "\xff", "a.b", "?", "x = 1 ; y", "0"}
	wrong = append(wrong, strings.Fields("proc var havoc assume assert if else while either or and not true false skip")...)
	for _, s := range wrong {
		for where, p := range named(s) {
			if Right(p) {
				t.Errorf("9.1: Right is true with the name %q, %s", brief(s), where)
			}
			isWrong(t, p)
		}
	}
	for where, p := range named("") {
		// An empty name says that there is none.
		if want := where == "a result's" || where == "what a call sets"; Right(p) != want {
			t.Errorf("9.1: Right with an empty name, %s: %v", where, Right(p))
		}
	}
}

func TestNumbers(t *testing.T) {
	for _, n := range []int{0, 1, 9, 10, 99999999, 100000000, 999999998, 999999999, -1, -2, -999999999, 1000000000, 1000000001, 9999999999, 1 << 31, 1 << 32, 1<<32 + 5, math.MaxInt, math.MinInt} {
		for _, p := range []api.Prog{setTo(number(n)), setTo(number(n), above(api.NNeg, 0)), passing([]api.Node{variable("a"), number(n), between(api.NMul, 0, 1)}), assuming(number(n), number(1), between(api.NEq, 0, 1)), body(api.Stmt{Kind: api.SSkip}, api.Stmt{Kind: api.SWhile, E: []api.Node{number(1), number(n), between(api.NEq, 0, 1)}})} {
			if 0 <= n && n <= 999999999 {
				isRight(t, p)
			} else {
				isWrong(t, p)
			}
		}
	}
}

// TestKindsOfNodes: each kind as an expression's and a condition's root, over kids of each sort and number.
func TestKindsOfNodes(t *testing.T) {
	// The sorts of kids that a kind asks for, and, behind the colon, its own: e expression, c condition.
	asks := map[int]string{api.NNum: ":e", api.NVar: ":e", api.NNeg: "e:e", api.NTrue: ":c", api.NFalse: ":c", api.NPick: ":c", api.NNot: "c:c", api.NAnd: "cc:c", api.NOr: "cc:c"}
	for kind := api.NAdd; kind <= api.NMod; kind++ {
		asks[kind] = "ee:e"
	}
	for kind := api.NEq; kind <= api.NGe; kind++ {
		asks[kind] = "ee:c"
	}
	if len(asks) != 20 {
		t.Fatal("kinds:", len(asks))
	}
	for _, kind := range append([]int{math.MinInt, -1, 0, 21, 22, 1 << 32, math.MaxInt}, kindsOf(asks)...) {
		for _, kids := range []string{"", "e", "c", "ee", "ec", "ce", "cc", "eee", "ccc"} {
			l := []api.Node{}
			n := leaf(kind)
			if kind == api.NVar {
				n.Name = "x"
			}
			for i, kid := range kids {
				l = append(l, map[rune]api.Node{'e': number(7), 'c': leaf(api.NPick)}[kid])
				if i == 0 {
					n.A = 0
				} else {
					n.B = i
				}
			}
			l = append(l, n)
			want := func(is string) func(*testing.T, api.Prog) {
				if asks[kind] == kids+":"+is {
					return isRight
				}
				return isWrong
			}
			want("e")(t, setTo(l...))
			want("e")(t, passing(l))
			want("e")(t, passing([]api.Node{number(1)}, l))
			want("c")(t, assuming(l...))
			want("c")(t, body(api.Stmt{Kind: api.SAssert, E: l}))
			want("c")(t, body(api.Stmt{Kind: api.SIf, E: l}))
			want("c")(t, body(api.Stmt{Kind: api.SWhile, E: l}))
		}
	}
}

func kindsOf(asks map[int]string) []int {
	var l []int
	for kind := range asks {
		l = append(l, kind)
	}
	return l
}

// TestNodesFields: what a kind of node does not name is zero; a kid that there is not is -1.
func TestNodesFields(t *testing.T) {
	for _, l := range [][]api.Node{{number(0)}, {number(5)}, {variable("x")}, {number(1), above(api.NNeg, 0)}, {number(1), number(2), between(api.NMod, 0, 1)}} {
		eachNodesField(t, l, setTo)
	}
	for _, l := range [][]api.Node{{leaf(api.NTrue)}, {leaf(api.NFalse)}, {leaf(api.NPick)}, {leaf(api.NPick), above(api.NNot, 0)}, {leaf(api.NPick), leaf(api.NTrue), between(api.NOr, 0, 1)}, {number(1), number(2), between(api.NGe, 0, 1)}} {
		eachNodesField(t, l, assuming)
	}
}

func eachNodesField(t *testing.T, l []api.Node, in func(...api.Node) api.Prog) {
	t.Helper()
	isRight(t, in(l...))
	root := &l[len(l)-1]
	was := *root
	for _, at := range []int{math.MinInt, -2, -1, 0, 1, 2, 3, math.MaxInt} {
		root.A = at
		if at != was.A {
			isWrong(t, in(l...))
		}
		*root = was
		root.B = at
		if at != was.B {
			isWrong(t, in(l...))
		}
		*root = was
	}
	if root.Kind != api.NNum {
		root.Num = 1
		isWrong(t, in(l...))
		root.Num = -1
		isWrong(t, in(l...))
		*root = was
	}
	if root.Kind != api.NVar {
		root.Name = "y"
		isWrong(t, in(l...))
		*root = was
	}
}

// smallTrees are the lists of at most so many nodes that are right as an expression, and as a condition, out of some
// kinds; -1 stands for no node.
func smallTrees(most int) (expr, cond map[[4]api.Node]bool) {
	expr, cond = map[[4]api.Node]bool{}, map[[4]api.Node]bool{}
	byLength := [2][][][]api.Node{make([][][]api.Node, most+1), make([][][]api.Node, most+1)}
	put := func(sort int, l ...api.Node) {
		byLength[sort][len(l)] = append(byLength[sort][len(l)], l)
		key := [4]api.Node{}
		copy(key[:], l)
		[]map[[4]api.Node]bool{expr, cond}[sort][key] = true
	}
	moved := func(l []api.Node, by int) []api.Node {
		var m []api.Node
		for _, n := range l {
			if n.A >= 0 {
				n.A += by
			}
			if n.B >= 0 {
				n.B += by
			}
			m = append(m, n)
		}
		return m
	}
	put(0, number(0))
	put(0, variable("x"))
	put(1, leaf(api.NPick))
	for n := 2; n <= most; n++ {
		for sort, kind := range []int{api.NNeg, api.NNot} {
			for _, l := range byLength[sort][n-1] {
				put(sort, append(moved(l, 0), above(kind, n-2))...)
			}
		}
		for left := 1; left < n-1; left++ {
			for _, joint := range []struct{ of, is, kind int }{{0, 0, api.NSub}, {0, 1, api.NLt}, {1, 1, api.NAnd}} {
				for _, a := range byLength[joint.of][left] {
					for _, b := range byLength[joint.of][n-1-left] {
						l := append(moved(a, 0), moved(b, left)...)
						put(joint.is, append(l, between(joint.kind, left-1, n-2))...)
					}
				}
			}
		}
	}
	return expr, cond
}

// TestSmallLists: all lists of one and of two nodes, those of three of which the first has not two kids, the right ones of
// four, and each right one with another root.
func TestSmallLists(t *testing.T) {
	expr, cond := smallTrees(4)
	var all []api.Node
	for _, n := range []api.Node{number(0), variable("x"), leaf(api.NPick), leaf(api.NNeg), leaf(api.NNot), leaf(api.NSub), leaf(api.NLt), leaf(api.NAnd)} {
		for a := -1; a < 3; a++ {
			for b := -1; b < 3; b++ {
				n.A, n.B = a, b
				all = append(all, n)
			}
		}
	}
	found := 0
	expect := func(l ...api.Node) {
		key := [4]api.Node{}
		copy(key[:], l)
		if Right(setTo(l...)) != expr[key] || Right(assuming(l...)) != cond[key] {
			t.Fatalf("9.1: Right of %+v: %v as an expression, %v as a condition", l, !expr[key], !cond[key])
		}
		if expr[key] || cond[key] {
			found++
		}
	}
	for _, a := range all {
		expect(a)
		for _, b := range all {
			expect(a, b)
			if a.A >= 0 && a.B >= 0 {
				continue
			}
			for _, c := range all {
				expect(a, b, c)
			}
		}
	}
	for key := range expr {
		expect(listOf(key)...)
	}
	for key := range cond {
		expect(listOf(key)...)
	}
	for _, n := range all {
		for key := range expr {
			expect(append(listOf(key)[:len(listOf(key))-1], n)...)
		}
		for key := range cond {
			expect(append(listOf(key)[:len(listOf(key))-1], n)...)
		}
	}
	if found == 0 {
		t.Error("no list was right")
	}
}

func listOf(key [4]api.Node) []api.Node {
	var l []api.Node
	for _, n := range key {
		if n.Kind > 0 {
			l = append(l, n)
		}
	}
	return l
}

// TestNodeTooMany: a node ahead, between, behind, that belongs to nothing.
func TestNodeTooMany(t *testing.T) {
	for _, extra := range []api.Node{number(1), variable("x"), leaf(api.NPick)} {
		isWrong(t, setTo(extra, number(1)))
		isWrong(t, setTo(number(1), extra))
		isWrong(t, setTo(extra, number(1), above(api.NNeg, 1)))
		isWrong(t, setTo(number(1), extra, above(api.NNeg, 0)))
		isWrong(t, setTo(number(1), above(api.NNeg, 0), extra))
		isWrong(t, setTo(extra, number(1), number(2), between(api.NAdd, 1, 2)))
		isWrong(t, setTo(number(1), extra, number(2), between(api.NAdd, 0, 2)))
		isWrong(t, setTo(number(1), number(2), extra, between(api.NAdd, 0, 1)))
		isWrong(t, assuming(extra, leaf(api.NTrue)))
		isWrong(t, assuming(leaf(api.NTrue), extra))
		isWrong(t, assuming(leaf(api.NTrue), extra, above(api.NNot, 0)))
	}
	// The same trees in another order, and a kid of two parents.
	isWrong(t, setTo(number(2), number(1), between(api.NAdd, 1, 0)))
	isWrong(t, setTo(number(1), between(api.NAdd, 0, 0)))
	isWrong(t, setTo(number(1), above(api.NNeg, 0), between(api.NAdd, 0, 1)))
	isWrong(t, setTo(number(1), number(2), above(api.NNeg, 0), between(api.NAdd, 2, 1)))
	isWrong(t, setTo(between(api.NAdd, 1, 2), number(1), number(2)))
	isWrong(t, setTo(above(api.NNeg, 0)))
	isWrong(t, setTo(above(api.NNeg, 1), above(api.NNeg, 0)))
	isRight(t, setTo(number(1), number(2), above(api.NNeg, 1), between(api.NAdd, 0, 2)))
}

func TestNoNodes(t *testing.T) {
	for _, none := range [][]api.Node{nil, {}, make([]api.Node, 0, 2)} {
		isWrong(t, setTo(none...))
		isWrong(t, assuming(none...))
		isWrong(t, passing(none))
		isWrong(t, passing([]api.Node{number(1)}, none))
		for _, kind := range []int{api.SAssert, api.SIf, api.SWhile} {
			isWrong(t, body(api.Stmt{Kind: kind, E: none}))
		}
	}
	isRight(t, passing())
	isRight(t, body(api.Stmt{Kind: api.SCall, Proc: "f", Args: [][]api.Node{}}))
}

// TestStatementsFields: which fields a kind of statement names, and which of them it needs.
func TestStatementsFields(t *testing.T) {
	needs := map[int]string{api.SSet: "Name E", api.SHavoc: "Name", api.SAssume: "C", api.SAssert: "C", api.SIf: "C", api.SWhile: "C", api.SEither: "", api.SCall: "Proc", api.SSkip: ""}
	takes := map[int]string{api.SIf: "Body Else", api.SWhile: "Body", api.SEither: "Body Else", api.SCall: "Name Args"}
	fields := strings.Fields("Name Proc E C Args Body Else")
	for kind := -1; kind <= api.SSkip+2; kind++ {
		need, known := needs[kind]
		for bits := range 1 << len(fields) {
			s := api.Stmt{Kind: kind}
			want := known
			for i, field := range fields {
				is := bits>>i&1 == 1
				if is {
					fill(&s, field)
				}
				needed := strings.Contains(" "+need+" ", " "+field+" ")
				taken := strings.Contains(" "+takes[kind]+" ", " "+field+" ")
				want = want && (is || !needed) && (!is || needed || taken)
			}
			if bits&4 > 0 && bits&8 > 0 {
				continue // both an expression and a condition are none
			}
			if want {
				isRight(t, body(s))
			} else {
				isWrong(t, body(s))
			}
			isAsParsed(t, body(s))
		}
	}
}

func fill(s *api.Stmt, field string) {
	skip := []api.Stmt{{Kind: api.SSkip}}
	switch field {
	case "Name":
		s.Name = "x"
	case "Proc":
		s.Proc = "f"
	case "E":
		s.E = []api.Node{number(1)}
	case "C":
		s.E = []api.Node{leaf(api.NPick)}
	case "Args":
		s.Args = [][]api.Node{{number(1)}}
	case "Body":
		s.Body = skip
	case "Else":
		s.Else = skip
	}
}

// TestWhereverItStands: a wrong statement, a wrong list, in each place.
func TestWhereverItStands(t *testing.T) {
	skip := api.Stmt{Kind: api.SSkip}
	pick := []api.Node{leaf(api.NPick)}
	for _, s := range []api.Stmt{skip, {}, {Kind: api.SSkip, Name: "x"}, {Kind: 10}, {Kind: -1}, {Kind: api.SHavoc}, {Kind: api.SAssume}, {Kind: api.SSet, Name: "x", E: pick}} {
		expect := isWrong
		if s.Kind == api.SSkip && s.Name == "" {
			expect = isRight
		}
		for _, l := range [][]api.Stmt{{s}, {s, skip}, {skip, s}, {skip, s, skip}} {
			expect(t, body(l...))
			expect(t, procs(api.Proc{Name: "m", Body: l}, api.Proc{Name: "m"}))
			expect(t, procs(api.Proc{Name: "m"}, api.Proc{Name: "m", Body: l}))
			expect(t, body(api.Stmt{Kind: api.SIf, E: pick, Body: l}))
			expect(t, body(api.Stmt{Kind: api.SIf, E: pick, Else: l}))
			expect(t, body(api.Stmt{Kind: api.SWhile, E: pick, Body: l}))
			expect(t, body(api.Stmt{Kind: api.SEither, Body: l}))
			expect(t, body(api.Stmt{Kind: api.SEither, Else: l}))
			expect(t, body(api.Stmt{Kind: api.SEither, Else: []api.Stmt{{Kind: api.SWhile, E: pick, Body: l}}}))
		}
	}
}

// TestEachFieldSpoilt: programs with any one field written to, held against what layer 8 makes of their texts.
func TestEachFieldSpoilt(t *testing.T) {
	for _, s := range samples() {
		eachSpoilt(s, func(p api.Prog) { isAsParsed(t, p) })
	}
}

// TestSpoiltByChance: programs with some fields written to.
func TestSpoiltByChance(t *testing.T) {
	m := maker{rand.New(rand.NewSource(92))}
	for range 4000 {
		p := m.prog()
		for range 1 + m.Intn(2) {
			all := spots(reflect.ValueOf(&p))
			spot := all[m.Intn(len(all))]
			with := others(spot)
			spot.Set(with[m.Intn(len(with))])
		}
		if len(spelling{}.prog(p)) <= api.MaxText {
			isAsParsed(t, p)
		}
	}
}

// nest is something that is within itself so many times, and how many are open then.
type nest struct {
	name  string
	times func(n int) []api.Node
	deep  func(n int) int
}

// leftward, rightward and upward grow trees out of one node.
func leftward(kind int, one api.Node) func(int) []api.Node {
	return func(n int) []api.Node {
		l := []api.Node{one}
		for range n {
			l = append(l, one, between(kind, len(l)-1, len(l)))
		}
		return l
	}
}

func rightward(kind int, one api.Node) func(int) []api.Node {
	return func(n int) []api.Node {
		var l []api.Node
		for range n + 1 {
			l = append(l, one)
		}
		for i := range n {
			l = append(l, between(kind, n-1-i, len(l)-1))
		}
		return l
	}
}

func upward(kind int, one ...api.Node) func(int) []api.Node {
	return func(n int) []api.Node {
		l := append([]api.Node{}, one...)
		for range n {
			l = append(l, above(kind, len(l)-1))
		}
		return l
	}
}

func before(n int) int { return max(0, n-1) }
func twice(n int) int  { return max(0, 2*n-1) }

func expressions() []nest {
	return []nest{
		{"sums, left", leftward(api.NAdd, number(1)), before}, {"sums, right", rightward(api.NSub, variable("x")), before},
		{"products, left", leftward(api.NMul, variable("x")), before}, {"products, right", rightward(api.NMod, number(1)), before},
		{"signs", upward(api.NNeg, number(1)), twice},
		{"signs of a sum", upward(api.NNeg, number(1), number(2), between(api.NAdd, 0, 1)), func(n int) int { return 2 * n }},
	}
}

func conditions() []nest {
	compared := []api.Node{number(1), number(2), between(api.NLt, 0, 1)}
	return []nest{
		{"ands, left", leftward(api.NAnd, leaf(api.NPick)), before}, {"ors, right", rightward(api.NOr, leaf(api.NTrue)), before},
		{"nots", upward(api.NNot, leaf(api.NFalse)), twice}, {"nots of a comparison", upward(api.NNot, compared...), twice},
		{"nots of an and", upward(api.NNot, leaf(api.NPick), leaf(api.NPick), between(api.NAnd, 0, 1)), func(n int) int { return 2 * n }},
		{"compared sums", func(n int) []api.Node {
			l := leftward(api.NAdd, number(1))(n)
			return append(l, number(2), between(api.NEq, len(l)-1, len(l)))
		}, func(n int) int { return n }},
		{"a not over compared signs", func(n int) []api.Node {
			l := append([]api.Node{number(2)}, number(1))
			for range n {
				l = append(l, above(api.NNeg, len(l)-1))
			}
			l = append(l, between(api.NGt, 0, len(l)-1))
			return append(l, above(api.NNot, len(l)-1))
		}, func(n int) int { return 1 + 2*n }},
		{"an or of nots of compared sums", func(n int) []api.Node {
			l := append([]api.Node{leaf(api.NTrue), number(2)}, shifted(rightward(api.NDiv, number(1))(n), 2)...)
			l = append(l, between(api.NLe, 1, len(l)-1))
			l = append(l, above(api.NNot, len(l)-1))
			return append(l, between(api.NOr, 0, len(l)-1))
		}, func(n int) int { return 2 + n }},
	}
}

func shifted(l []api.Node, by int) []api.Node {
	for i := range l {
		if l[i].A >= 0 {
			l[i].A, l[i].B = l[i].A+by, l[i].B+by
		}
	}
	return l
}

// around are the blocks that may stand around statements, each one deeper.
func around() []func(...api.Stmt) api.Stmt {
	pick := []api.Node{leaf(api.NPick)}
	skip := api.Stmt{Kind: api.SSkip}
	return []func(...api.Stmt) api.Stmt{
		func(l ...api.Stmt) api.Stmt { return api.Stmt{Kind: api.SIf, E: pick, Body: l} },
		func(l ...api.Stmt) api.Stmt { return api.Stmt{Kind: api.SIf, E: pick, Else: append(l, skip)} },
		func(l ...api.Stmt) api.Stmt { return api.Stmt{Kind: api.SWhile, E: pick, Body: append(l, skip)} },
		func(l ...api.Stmt) api.Stmt { return api.Stmt{Kind: api.SEither, Body: l} },
		func(l ...api.Stmt) api.Stmt {
			return api.Stmt{Kind: api.SEither, Body: []api.Stmt{skip}, Else: append([]api.Stmt{skip}, l...)}
		},
	}
}

// isDeep holds Right of a statement in so many blocks, when so many are open in it, against MaxNest, and layer 8.
func isDeep(t *testing.T, name string, s api.Stmt, blocks, deep int, wrap func(...api.Stmt) api.Stmt) {
	t.Helper()
	for range blocks {
		s = wrap(s)
	}
	p := procs(api.Proc{Name: "m", Body: []api.Stmt{{Kind: api.SSkip}, s}}, api.Proc{Name: "n"})
	want := blocks+deep <= 50
	if Right(p) != want {
		t.Errorf("9.1: Right of %s, %d open in %d blocks: %v", name, deep, blocks, !want)
	}
	source := spelling{}.prog(p)
	if len(source) > api.MaxText {
		return
	}
	if _, e, _ := parse.Prog(source); want && e != api.OK || !want && e != api.ErrDeep {
		t.Errorf("8.1: %s, %d open in %d blocks: %v", name, deep, blocks, e)
	}
	if want {
		printsAs(t, p, source)
	} else {
		isWrong(t, p)
	}
}

func TestDeepest(t *testing.T) {
	if api.MaxNest != 50 {
		t.Fatal("api.MaxNest:", api.MaxNest)
	}
	wraps := around()
	for i, wrap := range wraps {
		for blocks := range 54 {
			isDeep(t, "no statement", wrap(), blocks, 1, wrap)
			isDeep(t, "a statement", api.Stmt{Kind: api.SSkip}, blocks, 0, wrap)
			isDeep(t, "an argument", api.Stmt{Kind: api.SCall, Proc: "f", Args: [][]api.Node{{number(1)}}}, blocks, 0, wrap)
			isDeep(t, "a comparison", api.Stmt{Kind: api.SAssert, E: []api.Node{number(1), number(2), between(api.NLt, 0, 1)}}, blocks, 0, wrap)
			isDeep(t, "another's blocks", wraps[(i+1)%len(wraps)](), blocks, 1, wrap)
		}
	}
	many := []int{0, 1, 2, 3, 10, 23, 24, 25, 26, 27, 47, 48, 49, 50, 51, 52, 53}
	for i, n := range expressions() {
		for _, times := range many {
			l := n.times(times)
			for _, blocks := range []int{0, 1, 2, 49 - n.deep(times), 50 - n.deep(times), 51 - n.deep(times)} {
				for _, s := range []api.Stmt{{Kind: api.SSet, Name: "x", E: l}, {Kind: api.SCall, Proc: "f", Args: [][]api.Node{l}}, {Kind: api.SCall, Name: "x", Proc: "f", Args: [][]api.Node{{number(1)}, l, {number(1)}}}} {
					isDeep(t, n.name, s, max(0, blocks), n.deep(times), wraps[i%len(wraps)])
				}
			}
		}
	}
	for i, n := range conditions() {
		for _, times := range many {
			l := n.times(times)
			for _, blocks := range []int{0, 1, 2, 49 - n.deep(times), 50 - n.deep(times), 51 - n.deep(times)} {
				blocks = max(0, blocks)
				isDeep(t, n.name, api.Stmt{Kind: api.SAssume, E: l}, blocks, n.deep(times), wraps[i%len(wraps)])
				isDeep(t, n.name, api.Stmt{Kind: api.SAssert, E: l}, blocks, n.deep(times), wraps[i%len(wraps)])
				isDeep(t, n.name, api.Stmt{Kind: api.SWhile, E: l}, blocks, max(1, n.deep(times)), wraps[i%len(wraps)])
				isDeep(t, n.name, api.Stmt{Kind: api.SIf, E: l, Else: []api.Stmt{{Kind: api.SSkip}}}, blocks, max(1, n.deep(times)), wraps[i%len(wraps)])
			}
		}
	}
}

// TestDeeperThanItsSource: it counts how deep is printed, not how deep the source was.
func TestDeeperThanItsSource(t *testing.T) {
	for _, joint := range []string{"+", "-", "*", "/", "%"} {
		isRight(t, parsed("proc m(){x=1"+strings.Repeat(joint+"1", 51)+";}"))
		isWrong(t, parsed("proc m(){x=1"+strings.Repeat(joint+"1", 52)+";}"))
	}
	for _, joint := range []string{" and ", " or "} {
		isRight(t, parsed("proc m(){assume *"+strings.Repeat(joint+"*", 51)+";}"))
		isWrong(t, parsed("proc m(){assume *"+strings.Repeat(joint+"*", 52)+";}"))
	}
	isRight(t, parsed("proc m(){x="+strings.Repeat("-", 25)+"1;}"))
	isWrong(t, parsed("proc m(){x="+strings.Repeat("-", 26)+"1;}"))
	isRight(t, parsed("proc m(){assume "+strings.Repeat("not ", 25)+"*;}"))
	isWrong(t, parsed("proc m(){assume "+strings.Repeat("not ", 26)+"*;}"))
	// Brackets that the source has and its print has not.
	printsAs(t, parsed("proc m(){x="+strings.Repeat("(", 50)+"1"+strings.Repeat(")", 50)+";}"), "proc m ( ) { x = 1 ; }")
}
