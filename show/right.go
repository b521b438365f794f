package show

import (
	"escarpment/api"
	"escarpment/lex"
)

func all[T any](l []T, holds func(T) bool) bool {
	for _, one := range l {
		if !holds(one) {
			return false
		}
	}
	return true
}

// isName tells whether layer 7 reads a name there, and nothing beside it.
func isName(s string) bool {
	tokens, e, _ := lex.Lex(s)
	return e == api.OK && tokens[0].Kind == api.TokName && tokens[0].Text == s
}

func isNameOrNone(s string) bool { return s == "" || isName(s) }

func isProc(p api.Proc) bool {
	return isName(p.Name) && all(p.Params, isName) && isNameOrNone(p.Result) && all(p.Vars, isName) && depth(0).areStmts(p.Body)
}

// depth is how many are open around what is looked at.
type depth int

func (d depth) areStmts(l []api.Stmt) bool { return all(l, d.isStmt) }

func (d depth) isBlock(l []api.Stmt) bool { return d < api.MaxNest && (d + 1).areStmts(l) }

func (d depth) isExpr(l []api.Node) bool { return d.isTree(l, expression) }

func (d depth) isCond(l []api.Node) bool { return d.isTree(l, condition) }

func (d depth) isStmt(s api.Stmt) bool {
	switch s.Kind {
	case api.SSet:
		return hasOnly(s, hasName|hasE) && isName(s.Name) && d.isExpr(s.E)
	case api.SHavoc:
		return hasOnly(s, hasName) && isName(s.Name)
	case api.SAssume, api.SAssert:
		return hasOnly(s, hasE) && d.isCond(s.E)
	case api.SIf:
		return hasOnly(s, hasE|hasBody|hasElse) && d.isCond(s.E) && d.isBlock(s.Body) && d.isBlock(s.Else)
	case api.SWhile:
		return hasOnly(s, hasE|hasBody) && d.isCond(s.E) && d.isBlock(s.Body)
	case api.SEither:
		return hasOnly(s, hasBody|hasElse) && d.isBlock(s.Body) && d.isBlock(s.Else)
	case api.SCall:
		return hasOnly(s, hasName|hasProc|hasArgs) && isNameOrNone(s.Name) && isName(s.Proc) && all(s.Args, d.isExpr)
	case api.SSkip:
		return hasOnly(s, 0)
	}
	return false
}

// Fields of a statement.
const (
	hasName = 1 << iota
	hasProc
	hasE
	hasArgs
	hasBody
	hasElse
)

// hasOnly tells whether all of s is zero, but for its kind and those fields.
func hasOnly(s api.Stmt, fields int) bool {
	may := func(field int) bool { return fields&field != 0 }
	return (s.Name == "" || may(hasName)) && (s.Proc == "" || may(hasProc)) && (len(s.E) == 0 || may(hasE)) &&
		(len(s.Args) == 0 || may(hasArgs)) && (len(s.Body) == 0 || may(hasBody)) && (len(s.Else) == 0 || may(hasElse))
}
