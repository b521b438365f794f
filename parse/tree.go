package parse

import (
	"strconv"

	"escarpment/api"
)

// tree is what a reader makes of one expression or condition: nodes in post order.
type tree struct {
	*reader
	nodes []api.Node
}

func (r *reader) cond() []api.Node {
	t := &tree{reader: r}
	t.disjunction()
	return t.nodes
}

func (r *reader) expr() []api.Node {
	t := &tree{reader: r}
	t.sum()
	return t.nodes
}

// add puts a node behind its kids.
func (t *tree) add(kind, a, b int) {
	t.nodes = append(t.nodes, api.Node{Kind: kind, A: a, B: b})
}

// root tells the place of the node that was read last: all of its kids stand ahead of it.
func (t *tree) root() int { return len(t.nodes) - 1 }

func (t *tree) disjunction() { t.chain(byOr, t.conjunction) }

func (t *tree) conjunction() { t.chain(byAnd, t.literal) }

func (t *tree) sum() { t.chain(bySum, t.product) }

func (t *tree) product() { t.chain(byProduct, t.unary) }

func (t *tree) comparison() {
	t.sum()
	if !t.joins(byOrder, t.sum) {
		t.refuse(api.ErrForm)
	}
}

// chain reads operands with operators of one rank between, from the left.
func (t *tree) chain(rank int, operand func()) {
	operand()
	for t.joins(rank, operand) {
	}
}

// joins tells whether an operator of that rank is next; if so, it reads on, and joins what was read last with the
// operand behind it.
func (t *tree) joins(rank int, operand func()) bool {
	kind, ranks := operator(t.next().Text)
	if ranks != rank {
		return false
	}
	t.at++
	left := t.root()
	operand()
	t.add(kind, left, t.root())
	return true
}

// Ranks of operators that have two operands.
const (
	byOr = iota + 1
	byAnd
	byOrder
	bySum
	byProduct
)

// operator tells an operator's kind of node, and its rank; of anything else 0.
func operator(text string) (kind, rank int) {
	switch text {
	case "or":
		return api.NOr, byOr
	case "and":
		return api.NAnd, byAnd
	case "==":
		return api.NEq, byOrder
	case "!=":
		return api.NNe, byOrder
	case "<":
		return api.NLt, byOrder
	case "<=":
		return api.NLe, byOrder
	case ">":
		return api.NGt, byOrder
	case ">=":
		return api.NGe, byOrder
	case "+":
		return api.NAdd, bySum
	case "-":
		return api.NSub, bySum
	case "*":
		return api.NMul, byProduct
	case "/":
		return api.NDiv, byProduct
	case "%":
		return api.NMod, byProduct
	}
	return 0, 0
}

func (t *tree) literal() {
	switch t.next().Text {
	case "not":
		t.prefix("not", api.NNot, t.literal)
	case "[":
		t.bracket("[", t.disjunction, "]")
	case "true":
		t.constant(api.NTrue)
	case "false":
		t.constant(api.NFalse)
	case "*":
		t.constant(api.NPick)
	default:
		t.comparison()
	}
}

func (t *tree) unary() {
	switch token := t.next(); {
	case token.Text == "-":
		t.prefix("-", api.NNeg, t.unary)
	case token.Text == "(":
		t.bracket("(", t.sum, ")")
	case token.Kind == api.TokNum:
		t.number()
	default:
		t.variable()
	}
}

// prefix reads an operator and the one operand behind it.
func (t *tree) prefix(text string, kind int, operand func()) {
	t.open(text)
	operand()
	t.shut()
	t.add(kind, t.root(), -1)
}

// bracket leaves no node.
func (t *tree) bracket(begin string, inner func(), end string) {
	t.open(begin)
	inner()
	t.take(end)
	t.shut()
}

// constant takes the next token for that kind of node.
func (t *tree) constant(kind int) {
	t.at++
	t.add(kind, -1, -1)
}

func (t *tree) number() {
	// A token's number has few digits, so that no error is left.
	n, _ := strconv.Atoi(t.text(api.TokNum))
	t.nodes = append(t.nodes, api.Node{Kind: api.NNum, Num: n, A: -1, B: -1})
}

func (t *tree) variable() {
	t.nodes = append(t.nodes, api.Node{Kind: api.NVar, Name: t.name(), A: -1, B: -1})
}
