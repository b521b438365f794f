package scope

import (
	"reflect"
	"slices"
	"sync"
	"testing"

	"escarpment/api"
)

// mixed are programs of all sorts.
func mixed() []api.Prog {
	l := []api.Prog{
		{}, {Procs: []api.Proc{{}}}, parsed("proc m(){m();}"), parsed("proc m(){x=1/2;}"), parsed("proc m(){}proc m(){}"), parsed("proc f(){}proc m(){f(1%2);}"),
		{Procs: []api.Proc{{Body: []api.Stmt{{Kind: 99, E: []api.Node{{Kind: api.NDiv}}, Else: []api.Stmt{{Kind: api.SAssert}}}}}}},
	}
	for _, s := range samples() {
		l = append(l, parsed(s))
	}
	return l
}

// answers are what the calls tell of a program.
type answers struct {
	check         found
	sites, points int
	site          [4]int
}

func asked(p api.Prog) answers {
	a := answers{check: checked(p), sites: Sites(p)}
	for _, proc := range p.Procs {
		a.points += Points(proc)
	}
	for i := range a.site {
		a.site[i] = Site(p, i/2, i%2, 0)
	}
	return a
}

// TestNothingIsChanged: R3, of spare room, too.
func TestNothingIsChanged(t *testing.T) {
	for _, p := range mixed() {
		roomy(reflect.ValueOf(&p).Elem())
		before := whole(p)
		first := asked(p)
		if whole(p) != before {
			t.Errorf("R3: a call changes what is handed in: %s", brief(p))
		}
		if asked(p) != first {
			t.Errorf("R5: another is told: %s", brief(p))
		}
	}
}

// roomy gives each list spare room that is not zero.
func roomy(v reflect.Value) {
	switch v.Kind() {
	case reflect.Struct:
		for i := range v.NumField() {
			roomy(v.Field(i))
		}
	case reflect.Slice:
		for i := range v.Len() {
			roomy(v.Index(i))
		}
		if v.Len() > 0 {
			n := v.Len()
			v.Set(reflect.AppendSlice(v.Slice3(0, n, n), v).Slice(0, n))
		}
	}
}

// whole is what told tells, with the procedures' and their statements' spare room.
func whole(p api.Prog) string {
	s := told(p)
	for _, proc := range p.Procs[:cap(p.Procs)] {
		s += told(proc) + told(proc.Body[:cap(proc.Body)]) + told(proc.Params[:cap(proc.Params)]) + told(proc.Vars[:cap(proc.Vars)])
		for _, stmt := range proc.Body {
			s += told(stmt.E[:cap(stmt.E)]) + told(stmt.Args[:cap(stmt.Args)]) + told(stmt.Body[:cap(stmt.Body)]) + told(stmt.Else[:cap(stmt.Else)])
		}
	}
	return s
}

// TestNilAndEmpty: R3: a nil list and an empty one are one.
func TestNilAndEmpty(t *testing.T) {
	for _, p := range mixed() {
		want := asked(p)
		for _, spot := range spots(reflect.ValueOf(&p)) {
			if spot.Kind() == reflect.Slice && spot.Len() == 0 {
				spot.Set(reflect.MakeSlice(spot.Type(), 0, 3))
			}
		}
		if got := asked(p); got != want {
			t.Errorf("R3: of empty lists %v, of nil ones %v: %s", got, want, brief(p))
		}
	}
}

// TestTheSameAgain: R5, and R1: calls that run at the same time tell what each tells alone.
func TestTheSameAgain(t *testing.T) {
	var wait sync.WaitGroup
	for _, p := range mixed() {
		want := asked(p)
		for range 8 {
			wait.Go(func() {
				for range 50 {
					if got := asked(p); got != want {
						t.Errorf("R5: %v, then %v: %s", want, got, brief(p))
					}
				}
			})
		}
	}
	wait.Wait()
}

// TestAsDeepAsMayBe: R1: statements nested far deeper than a source's have points and sites.
func TestAsDeepAsMayBe(t *testing.T) {
	const deep = 1<<16 - 4
	for kind := range 3 {
		l := []api.Stmt{{Kind: api.SAssert}}
		for at := range deep {
			s := api.Stmt{Kind: api.SAssert}
			if kind == 0 || kind == 2 && at%2 == 0 {
				s.Body = l
			} else {
				s.Else = l
			}
			l = []api.Stmt{s}
		}
		p := api.Prog{Procs: []api.Proc{{Name: "m", Body: l}, {Name: "n", Body: slices.Clone(l)}}}
		if Points(p.Procs[1]) != deep+1 || Sites(p) != 2*deep+2 || Site(p, 1, deep, 0) != 2*deep+1 || Site(p, 1, deep+1, 0) != -1 {
			t.Error("10.1: of statements nested deep:", Points(p.Procs[1]), Sites(p), Site(p, 1, deep, 0))
		}
		if got := checked(p); got != (found{e: api.ErrArg}) {
			t.Error("10.2: of statements nested deep:", got)
		}
	}
}

// TestMany: R1: a long list, in each of which there is much.
func TestMany(t *testing.T) {
	nodes := slices.Repeat([]api.Node{{Kind: api.NDiv}}, 1000)
	s := api.Stmt{Kind: api.SAssert, E: nodes, Args: slices.Repeat([][]api.Node{nodes}, 3)}
	p := api.Prog{Procs: slices.Repeat([]api.Proc{{Body: slices.Repeat([]api.Stmt{s}, 100)}}, 100)}
	const each = 4001
	if Sites(p) != each*100*100 || Site(p, 99, 99, 4000) != each*100*100-1 || Site(p, 99, 99, 4001) != -1 || Site(p, 50, 1, 7) != 50*100*each+each+7 {
		t.Error("10.1: of many sites:", Sites(p))
	}
}
