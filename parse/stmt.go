package parse

import "escarpment/api"

func (r *reader) prog() api.Prog {
	p := api.Prog{Procs: []api.Proc{r.proc()}}
	for r.next().Kind != api.TokEnd {
		p.Procs = append(p.Procs, r.proc())
	}
	return p
}

func (r *reader) proc() api.Proc {
	r.take("proc")
	p := api.Proc{Name: r.name()}
	p.Params = listed(r, r.name)
	if r.takes("->") {
		p.Result = r.name()
	}
	// These braces are none that count: no open.
	r.take("{")
	for r.takes("var") {
		p.Vars = append(p.Vars, r.name())
		r.take(";")
	}
	p.Body = r.stmts()
	return p
}

func (r *reader) block() []api.Stmt {
	r.open("{")
	l := r.stmts()
	r.shut()
	return l
}

// stmts reads statements and the } behind them.
func (r *reader) stmts() []api.Stmt {
	var l []api.Stmt
	for !r.takes("}") {
		l = append(l, r.stmt())
	}
	return l
}

func (r *reader) stmt() api.Stmt {
	switch {
	case r.takes("if"):
		return r.choice()
	case r.takes("while"):
		s := api.Stmt{Kind: api.SWhile, E: r.cond()}
		s.Body = r.block()
		return s
	case r.takes("either"):
		s := api.Stmt{Kind: api.SEither, Body: r.block()}
		r.take("or")
		s.Else = r.block()
		return s
	}
	s := r.plain()
	r.take(";")
	return s
}

// choice reads what stands behind an if.
func (r *reader) choice() api.Stmt {
	s := api.Stmt{Kind: api.SIf, E: r.cond()}
	s.Body = r.block()
	if r.takes("else") {
		s.Else = r.block()
	}
	return s
}

// plain reads a statement without blocks, but for its semicolon.
func (r *reader) plain() api.Stmt {
	switch {
	case r.takes("havoc"):
		return api.Stmt{Kind: api.SHavoc, Name: r.name()}
	case r.takes("assume"):
		return api.Stmt{Kind: api.SAssume, E: r.cond()}
	case r.takes("assert"):
		return api.Stmt{Kind: api.SAssert, E: r.cond()}
	case r.takes("skip"):
		return api.Stmt{Kind: api.SSkip}
	case r.callsNext():
		return r.call("")
	}
	name := r.name()
	r.take("=")
	if r.callsNext() {
		return r.call(name)
	}
	return api.Stmt{Kind: api.SSet, Name: name, E: r.expr()}
}

// callsNext tells whether a call is next: a name alone may as well be what is set, or what it is set to.
func (r *reader) callsNext() bool {
	return r.next().Kind == api.TokName && r.tokens[r.at+1].Text == "("
}

// call reads a call, of which the result goes to that name.
func (r *reader) call(name string) api.Stmt {
	s := api.Stmt{Kind: api.SCall, Name: name, Proc: r.name()}
	s.Args = listed(r, r.expr)
	return s
}
