package show

import "escarpment/api"

// class says what a node tells: a number or a truth.
type class int

const (
	expression class = iota + 1
	condition
)

// kind is what is written for a node of a kind, and what belongs below it.
type kind struct {
	text string // empty: the node's own number or name
	kids int
	of   class // the kids'
	is   class
}

// kindOf tells the zero value of what is no kind of node.
func kindOf(n api.Node) kind {
	switch n.Kind {
	case api.NNum, api.NVar:
		return kind{is: expression}
	case api.NNeg:
		return kind{text: "-", kids: 1, of: expression, is: expression}
	case api.NTrue:
		return kind{text: "true", is: condition}
	case api.NFalse:
		return kind{text: "false", is: condition}
	case api.NPick:
		return kind{text: "*", is: condition}
	case api.NNot:
		return kind{text: "not", kids: 1, of: condition, is: condition}
	}
	return joint(n.Kind)
}

// joint is kindOf of what has two kids.
func joint(n int) kind {
	switch n {
	case api.NAdd:
		return kind{"+", 2, expression, expression}
	case api.NSub:
		return kind{"-", 2, expression, expression}
	case api.NMul:
		return kind{"*", 2, expression, expression}
	case api.NDiv:
		return kind{"/", 2, expression, expression}
	case api.NMod:
		return kind{"%", 2, expression, expression}
	case api.NEq:
		return kind{"==", 2, expression, condition}
	case api.NNe:
		return kind{"!=", 2, expression, condition}
	case api.NLt:
		return kind{"<", 2, expression, condition}
	case api.NLe:
		return kind{"<=", 2, expression, condition}
	case api.NGt:
		return kind{">", 2, expression, condition}
	case api.NGe:
		return kind{">=", 2, expression, condition}
	case api.NAnd:
		return kind{"and", 2, condition, condition}
	case api.NOr:
		return kind{"or", 2, condition, condition}
	}
	return kind{}
}

// inBrackets tells whether what is of that kind stands in brackets where it is an operand. What has no kids does not, nor
// a comparison, which makes a truth of numbers.
func (k kind) inBrackets() bool { return k.of == k.is }
