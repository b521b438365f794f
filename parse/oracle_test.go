package parse

import (
	"strings"
	"testing"

	"escarpment/api"
	"escarpment/lex"
)

// The document's grammar. What is repeated, or may be left out, has a rule of its own. A word in capitals is a rule's.
const grammar = `
PROG: PROC | PROG PROC
PROC: proc name ( NAMES ) RESULT { VARS STMTS }
NAMES: | LISTED
LISTED: name | LISTED , name
RESULT: | -> name
VARS: | VARS var name ;
STMTS: | STMTS STMT
BLOCK: { STMTS }
STMT: name = EXPR ; | name = name ( ARGS ) ; | name ( ARGS ) ; | havoc name ;
STMT: assume COND ; | assert COND ; | if COND BLOCK | if COND BLOCK else BLOCK | while COND BLOCK
STMT: either BLOCK or BLOCK | skip ;
ARGS: | EXPRS
EXPRS: EXPR | EXPRS , EXPR
COND: CONJ | COND or CONJ
CONJ: LIT | CONJ and LIT
LIT: not LIT | [ COND ] | true | false | *
LIT: EXPR == EXPR | EXPR != EXPR | EXPR < EXPR | EXPR <= EXPR | EXPR > EXPR | EXPR >= EXPR
EXPR: TERM | EXPR + TERM | EXPR - TERM
TERM: UNARY | TERM * UNARY | TERM / UNARY | TERM % UNARY
UNARY: - UNARY | number | name | ( EXPR )
`

// rules are the grammar's: of each one's name, what it may be.
type rules struct {
	of    map[string][][]string
	empty map[string]bool // may be nothing; no rule is so through others
}

func readRules() rules {
	g := rules{map[string][][]string{}, map[string]bool{}}
	for _, line := range strings.Split(strings.TrimSpace(grammar), "\n") {
		name, rest, _ := strings.Cut(line, ":")
		for _, choice := range strings.Split(rest, "|") {
			g.of[name] = append(g.of[name], strings.Fields(choice))
			g.empty[name] = g.empty[name] || strings.TrimSpace(choice) == ""
		}
	}
	return g
}

// item is a rule's choice that was begun at a token, and how many parts of it have been read.
type item struct {
	rule               string
	choice, read, from int
}

// chart tells ahead of each token which items it may be part of: the way of Earley, that knows of no order of trials.
type chart struct {
	rules
	sets [][]item
}

func begin(g rules) chart {
	c := chart{rules: g}
	return c.with([]item{{rule: "PROG"}, {rule: "PROG", choice: 1}})
}

// rest tells what of an item is still to be read.
func (c chart) rest(i item) []string { return c.of[i.rule][i.choice][i.read:] }

// with is c and one set more: those items and all that come of them.
func (c chart) with(set []item) chart {
	seen := map[item]bool{}
	here := len(c.sets)
	c.sets = append(c.sets[:here:here], nil)
	var l []item
	add := func(i item) {
		if !seen[i] {
			seen[i] = true
			l = append(l, i)
		}
	}
	for _, i := range set {
		add(i)
	}
	for n := 0; n < len(l); n++ {
		i := l[n]
		rest := c.rest(i)
		if len(rest) == 0 && i.from < here {
			for _, outer := range c.sets[i.from] {
				if left := c.rest(outer); len(left) > 0 && left[0] == i.rule {
					outer.read++
					add(outer)
				}
			}
		}
		if len(rest) == 0 {
			continue
		}
		for choice := range c.of[rest[0]] {
			add(item{rule: rest[0], choice: choice, from: here})
		}
		if c.empty[rest[0]] {
			i.read++
			add(i)
		}
	}
	c.sets[here] = l
	return c
}

// may tells which tokens can stand next: names are `name`, numbers `number`, the end “.
func (c chart) may() map[string]bool {
	l := map[string]bool{}
	for _, i := range c.sets[len(c.sets)-1] {
		rest := c.rest(i)
		if len(rest) > 0 && c.of[rest[0]] == nil {
			l[rest[0]] = true
		}
		if len(rest) == 0 && i.rule == "PROG" {
			l[""] = true
		}
	}
	return l
}

// behind is c behind such a token.
func (c chart) behind(token string) chart {
	var l []item
	for _, i := range c.sets[len(c.sets)-1] {
		if rest := c.rest(i); len(rest) > 0 && rest[0] == token {
			i.read++
			l = append(l, i)
		}
	}
	return c.with(l)
}

func sort(token api.Token) string {
	switch token.Kind {
	case api.TokName:
		return "name"
	case api.TokNum:
		return "number"
	}
	return token.Text
}

// tooDeep tells the first token, out of some that can stand where they stand, that opens more than 50; -1: none. It
// keeps what is open, and no tree.
func tooDeep(tokens []api.Token) int {
	var open []string
	count := 0
	push := func(s string) {
		open = append(open, s)
		if s != "call" && s != "proc" {
			count++
		}
	}
	pop := func() string {
		top := open[len(open)-1]
		open = open[:len(open)-1]
		if top != "call" && top != "proc" {
			count--
		}
		return top
	}
	popAll := func(s string) {
		for len(open) > 0 && open[len(open)-1] == s {
			pop()
		}
	}
	for i, token := range tokens {
		ahead := api.Token{}
		if i > 0 {
			ahead = tokens[i-1]
		}
		operand := ahead.Kind == api.TokName || ahead.Kind == api.TokNum || ahead.Text == ")"
		switch s := sort(token); s {
		case "name", "number":
			popAll("-")
		case "-":
			if !operand {
				push("-")
			}
		case "(":
			if ahead.Kind == api.TokName {
				push("call")
			} else {
				push("(")
			}
		case ")":
			pop()
			popAll("-")
		case "[", "not":
			push(s)
		case "]", "}":
			popAll("not")
			pop()
		case ";", "and", "or":
			popAll("not")
		case "{":
			popAll("not")
			if len(open) == 0 {
				push("proc")
			} else {
				push("{")
			}
		}
		if count > 50 {
			return i
		}
	}
	return -1
}

// byGrammar tells what Prog has to tell of s, but for the program.
func byGrammar(g rules, s string) (api.Errno, int) {
	tokens, e, at := lex.Lex(s)
	if e != api.OK {
		return e, at
	}
	c := begin(g)
	n := 0
	for n < len(tokens) && c.may()[sort(tokens[n])] {
		c = c.behind(sort(tokens[n]))
		n++
	}
	if deep := tooDeep(tokens[:n]); deep >= 0 {
		return api.ErrDeep, tokens[deep].At
	}
	if n < len(tokens) {
		return api.ErrForm, tokens[n].At
	}
	return api.OK, 0
}

// expectAsByGrammar holds Prog of s against the grammar.
func expectAsByGrammar(t *testing.T, g rules, s string) {
	t.Helper()
	want, place := byGrammar(g, s)
	if want != api.OK {
		isRefused(t, s, want, place)
		return
	}
	isTaken(t, s)
}

// kinds are the tokens of the language, one name and one number among them.
func kinds() []string {
	return append(strings.Fields("x 1 proc var havoc assume assert if else while either or and not true false skip"),
		strings.Fields("( ) { } [ ] , ; = == != < <= > >= + - * / % ->")...)
}
