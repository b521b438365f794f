package scope

import (
	"math"
	"math/rand"
	"testing"

	"escarpment/api"
)

// site is which of a statement.
type site struct{ proc, point, which int }

// sitesIn are all sites in order.
func sitesIn(p api.Prog) []site {
	var all []site
	for proc := range p.Procs {
		for point, s := range flat(p.Procs[proc].Body) {
			which := 0
			put := func(is bool) {
				if is {
					all = append(all, site{proc, point, which})
					which++
				}
			}
			for _, n := range s.E {
				put(n.Kind == api.NDiv || n.Kind == api.NMod)
			}
			for _, l := range s.Args {
				for _, n := range l {
					put(n.Kind == api.NDiv || n.Kind == api.NMod)
				}
			}
			put(s.Kind == api.SAssert)
		}
	}
	return all
}

// counts holds Sites, Points and Site, of what there is and of what there is not, against the list of all.
func counts(t *testing.T, p api.Prog) {
	t.Helper()
	all := sitesIn(p)
	if got := Sites(p); got != len(all) {
		t.Errorf("10.1: %d sites, want %d: %s", got, len(all), brief(p))
	}
	number := map[site]int{}
	for i, one := range all {
		number[one] = i
	}
	for proc := -2; proc <= len(p.Procs)+1; proc++ {
		points := 0
		if proc >= 0 && proc < len(p.Procs) {
			points = len(flat(p.Procs[proc].Body))
			if got := Points(p.Procs[proc]); got != points {
				t.Errorf("10: %d points, want %d: %s", got, points, brief(p))
			}
		}
		for point := -2; point <= points+1; point++ {
			for which := -2; ; which++ {
				want, is := number[site{proc, point, which}]
				if !is {
					want = -1
				}
				if got := Site(p, proc, point, which); got != want {
					t.Errorf("10.1: Site %d %d %d is %d, want %d: %s", proc, point, which, got, want, brief(p))
				}
				if !is && which > 0 {
					break
				}
			}
		}
	}
}

// TestSitesTold: sites written out.
func TestSitesTold(t *testing.T) {
	for _, c := range []struct {
		s      string
		points []int
		sites  []site
	}{
		{"proc m(){}", []int{0}, nil},
		{"proc m(){skip;}", []int{1}, nil},
		{"proc m(){assert true;}", []int{1}, []site{{0, 0, 0}}},
		{"proc m(){skip;assert 1/2<3%4;skip;}", []int{3}, []site{{0, 1, 0}, {0, 1, 1}, {0, 1, 2}}},
		{"proc m(){assume 1/2<3;}", []int{1}, []site{{0, 0, 0}}},
		{"proc m(){assume 1*2<3+4-(-5) and[not[*]];}", []int{1}, nil},
		{"proc m(x){x=1/2/3%4;f(1/2,3,4%x);havoc x;x=f(x%1);}", []int{4}, []site{{0, 0, 0}, {0, 0, 1}, {0, 0, 2}, {0, 1, 0}, {0, 1, 1}, {0, 3, 0}}},
		{"proc a(){assert *;}proc b(){}proc c(x){x=x;x=1/x;}", []int{1, 0, 2}, []site{{0, 0, 0}, {2, 1, 0}}},
		{"proc m(){if 1/2<3{assert true;skip;}else{assert 1%2<1;}assert true;}", []int{5}, []site{{0, 0, 0}, {0, 1, 0}, {0, 3, 0}, {0, 3, 1}, {0, 4, 0}}},
		{"proc m(){while 1/2<3{while 1%2<3{assert true;}}either{assert true;}or{assert false;}}", []int{6}, []site{{0, 0, 0}, {0, 1, 0}, {0, 2, 0}, {0, 4, 0}, {0, 5, 0}}},
		{"proc m(){if *{if *{skip;}else{assert *;}}else{if *{}else{assert *;}}}", []int{6}, []site{{0, 3, 0}, {0, 5, 0}}},
	} {
		p := parsed(c.s)
		if Sites(p) != len(c.sites) {
			t.Errorf("10.1: %d sites, want %d: %s", Sites(p), len(c.sites), c.s)
		}
		for i, one := range c.sites {
			if got := Site(p, one.proc, one.point, one.which); got != i {
				t.Errorf("10.1: Site %v is %d, want %d: %s", one, got, i, c.s)
			}
		}
		for i, points := range c.points {
			if got := Points(p.Procs[i]); got != points {
				t.Errorf("10: %d points, want %d: %s", got, points, c.s)
			}
		}
		counts(t, p)
	}
}

// wild is a program of lists as they come.
func (m maker) wild() api.Prog {
	var p api.Prog
	for range m.Intn(4) {
		p.Procs = append(p.Procs, api.Proc{Name: m.one("", "m", "?"), Body: m.wildStmts(3)})
	}
	return p
}

func (m maker) wildStmts(fuel int) []api.Stmt {
	var l []api.Stmt
	for range m.Intn(4) * min(fuel, 1) {
		s := api.Stmt{Kind: m.Intn(12) - 1, Name: m.one("", "x"), E: m.wildNodes(), Body: m.wildStmts(fuel - 1), Else: m.wildStmts(fuel - 1)}
		for range m.Intn(4) {
			s.Args = append(s.Args, m.wildNodes())
		}
		l = append(l, s)
	}
	return l
}

func (m maker) wildNodes() []api.Node {
	var l []api.Node
	for range m.Intn(4) {
		l = append(l, api.Node{Kind: m.Intn(api.NOr+3) - 1, A: m.Intn(5) - 2, B: m.Intn(5) - 2})
		if m.Intn(2) == 0 {
			l[len(l)-1].Kind = api.NDiv + m.Intn(2)
		}
	}
	return l
}

// TestSitesByChance: of programs that may be run, and of any.
func TestSitesByChance(t *testing.T) {
	m := maker{rand.New(rand.NewSource(3))}
	for range 3000 {
		counts(t, m.sound())
		counts(t, m.wild())
	}
}

// TestEachKind: one statement, one node, of each kind and none.
func TestEachKind(t *testing.T) {
	for kind := -2; kind <= 100; kind++ {
		want := 0
		if kind == api.SAssert {
			want = 1
		}
		if got := Sites(api.Prog{Procs: []api.Proc{{Body: []api.Stmt{{Kind: kind}}}}}); got != want {
			t.Errorf("10.1: %d sites of a statement of kind %d", got, kind)
		}
		want = 0
		if kind == api.NDiv || kind == api.NMod {
			want = 1
		}
		l := []api.Node{{Kind: kind}}
		for _, s := range []api.Stmt{{E: l}, {Args: [][]api.Node{l}}, {Kind: api.SSkip, Args: [][]api.Node{nil, l}}} {
			if got := Sites(api.Prog{Procs: []api.Proc{{Body: []api.Stmt{s}}}}); got != want {
				t.Errorf("10.1: %d sites of a node of kind %d", got, kind)
			}
		}
		counts(t, api.Prog{Procs: []api.Proc{{Body: []api.Stmt{{Kind: kind, E: l, Args: [][]api.Node{l, l}, Body: []api.Stmt{{Kind: api.SAssert}}, Else: []api.Stmt{{Kind: api.SAssert}}}}}}})
	}
}

// TestNoSuchSite: places that there are not.
func TestNoSuchSite(t *testing.T) {
	p := parsed("proc f(a)->r{r=a/2%3;assert a/r<1;}proc m(x){skip;x=f(x/1);}")
	far := []int{math.MinInt, math.MinInt + 1, math.MinInt32, -3, -2, -1, 2, 3, 1 << 31, math.MaxInt - 1, math.MaxInt}
	for _, a := range far {
		for _, b := range append(far, 0, 1) {
			for _, c := range append(far, 0, 1) {
				for _, one := range []site{{a, b, c}, {b, a, c}, {b, c, a}} {
					if got := Site(p, one.proc, one.point, one.which); got != -1 {
						t.Errorf("10.1: Site %v is %d, want -1", one, got)
					}
				}
			}
		}
	}
	for _, p := range []api.Prog{{}, {Procs: []api.Proc{}}, {Procs: []api.Proc{{}}}} {
		if Site(p, 0, 0, 0) != -1 || Sites(p) != 0 {
			t.Error("10.1: sites of a program without statements")
		}
	}
}
