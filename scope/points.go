package scope

import (
	"iter"

	"escarpment/api"
)

// points goes through the statements of p, each with its point.
func points(p api.Proc) iter.Seq2[int, api.Stmt] {
	return func(yield func(int, api.Stmt) bool) {
		point := -1
		inOrder(p.Body, func(s api.Stmt) bool {
			point++
			return yield(point, s)
		})
	}
}

// inOrder hands all statements on to one yield, however deep they are nested, and tells whether it wanted all.
func inOrder(l []api.Stmt, yield func(api.Stmt) bool) bool {
	for _, s := range l {
		if !yield(s) || !inOrder(s.Body, yield) || !inOrder(s.Else, yield) {
			return false
		}
	}
	return true
}

// sitesOf counts what may fail in s itself, not in what is within it.
func sitesOf(s api.Stmt) int {
	n := quotients(s.E)
	for _, l := range s.Args {
		n += quotients(l)
	}
	if s.Kind == api.SAssert {
		n++
	}
	return n
}

func quotients(l []api.Node) int {
	n := 0
	for _, node := range l {
		if node.Kind == api.NDiv || node.Kind == api.NMod {
			n++
		}
	}
	return n
}
