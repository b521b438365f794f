package show

import (
	"slices"

	"escarpment/api"
)

func sameProc(a, b api.Proc) bool {
	return a.Name == b.Name && slices.Equal(a.Params, b.Params) && a.Result == b.Result &&
		slices.Equal(a.Vars, b.Vars) && slices.EqualFunc(a.Body, b.Body, sameStmt)
}

func sameStmt(a, b api.Stmt) bool {
	return a.Kind == b.Kind && a.Name == b.Name && a.Proc == b.Proc && slices.Equal(a.E, b.E) &&
		slices.EqualFunc(a.Args, b.Args, slices.Equal[[]api.Node]) &&
		slices.EqualFunc(a.Body, b.Body, sameStmt) && slices.EqualFunc(a.Else, b.Else, sameStmt)
}
