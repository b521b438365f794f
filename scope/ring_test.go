package scope

import (
	"fmt"
	"math/rand"
	"testing"

	"escarpment/api"
)

// calling is a program whose procedures call as g says, at turns in all kinds of statements.
func calling(g graph) api.Prog {
	var p api.Prog
	leaf := []api.Node{{Kind: api.NPick, A: -1, B: -1}}
	kind := 0
	for from, l := range g {
		proc := api.Proc{Name: fmt.Sprint("p", from)}
		for _, to := range l {
			body := []api.Stmt{{Kind: api.SSkip}, {Kind: api.SCall, Proc: fmt.Sprint("p", to)}}
			kind++
			switch kind % 6 {
			case 0:
				body = []api.Stmt{{Kind: api.SIf, E: leaf, Body: body}}
			case 1:
				body = []api.Stmt{{Kind: api.SIf, E: leaf, Else: body}}
			case 2:
				body = []api.Stmt{{Kind: api.SWhile, E: leaf, Body: body}}
			case 3:
				body = []api.Stmt{{Kind: api.SEither, Body: body}}
			case 4:
				body = []api.Stmt{{Kind: api.SEither, Else: []api.Stmt{{Kind: api.SWhile, E: leaf, Body: body}}}}
			}
			proc.Body = append(proc.Body, body...)
		}
		p.Procs = append(p.Procs, proc)
	}
	return p
}

func circles(t *testing.T, g graph, want int) {
	t.Helper()
	if want < 0 {
		checks(t, calling(g), found{})
	} else {
		checks(t, calling(g), found{api.ErrCircle, want, -1})
	}
}

// TestRings: of one, of two, of many procedures, and what leads to them.
func TestRings(t *testing.T) {
	for _, c := range []struct {
		g    graph
		want int
	}{
		{graph{nil}, -1}, {graph{{0}}, 0}, {graph{{0, 0}}, 0}, {graph{nil, {1}}, 1}, {graph{{1}, {1}}, 1}, {graph{{1}, {0}}, 0},
		{graph{{1}, {2}, {1}}, 1}, {graph{{2}, {1}, nil}, 1}, {graph{{1, 2}, {2}, nil}, -1}, {graph{{1}, {2}, {3}, {1}}, 1},
		{graph{{3}, {2}, {1}, {0}}, 0}, {graph{{1}, nil, {3}, {2}}, 2}, {graph{{2}, {2}, {3}, {4}, {2}}, 2}, {graph{{1}, {1, 2}, {3}, {2}}, 1},
		// A procedure between two rings is in none.
		{graph{{1}, {2}, {2}, {3, 0}}, 2}, {graph{{2}, {1, 0}, {2}}, 1}, {graph{{4}, {2}, {1, 0}, {3}, {3}}, 1},
		// It is come to by many ways, but none leads back.
		{graph{{1, 2, 3}, {3, 2, 3}, {3}, nil}, -1}, {graph{nil, {0}, {0, 1}, {0, 1, 2, 2}}, -1},
	} {
		circles(t, c.g, c.want)
	}
}

// TestAllSmallGraphs: each procedure of up to four calls any of them.
func TestAllSmallGraphs(t *testing.T) {
	for n := 1; n <= 4; n++ {
		for choice := range 1 << (n * n) {
			g := make(graph, n)
			for bit := range n * n {
				if choice>>bit&1 == 1 {
					g[bit/n] = append(g[bit/n], bit%n)
				}
			}
			if choice%7 == 0 {
				checks(t, calling(g), wanted(calling(g)))
			}
			if got, want := g.firstInRing(), slowFirst(g); got != want {
				t.Fatalf("10.2: the first of %v is %d, want %d", g, got, want)
			}
		}
	}
}

// slowFirst goes from each place on to all that it leads to.
func slowFirst(g graph) int {
	for at := range g {
		to := map[int]bool{}
		more := g[at]
		for len(more) > 0 {
			next := more[0]
			more = more[1:]
			if !to[next] {
				to[next] = true
				more = append(more[:len(more):len(more)], g[next]...)
			}
		}
		if to[at] {
			return at
		}
	}
	return -1
}

// TestGraphsByChance: few arrows a place, so that rings are long, and arrows twice.
func TestGraphsByChance(t *testing.T) {
	r := rand.New(rand.NewSource(2))
	count := map[int]int{}
	for range 30000 {
		n := 1 + r.Intn(12)
		g := make(graph, n)
		for range r.Intn(n + n/2 + 1) {
			from := r.Intn(n)
			g[from] = append(g[from], r.Intn(n))
		}
		want := slowFirst(g)
		count[min(want, 6)]++
		if got := g.firstInRing(); got != want {
			t.Fatalf("10.2: the first of %v is %d, want %d", g, got, want)
		}
		if r.Intn(10) == 0 {
			circles(t, g, want)
		}
	}
	for want := -1; want <= 6; want++ {
		if count[want] < 100 {
			t.Error("too few of", want, count)
		}
	}
}

// TestLongRings: rings and ways of very many procedures.
func TestLongRings(t *testing.T) {
	const n = 100000
	way := make(graph, n)
	for at := range n - 1 {
		way[at] = []int{at + 1}
	}
	circles(t, way, -1)
	for _, to := range []int{n - 1, n / 2, 0} {
		way[n-1] = []int{to}
		circles(t, way, to)
	}
	back := make(graph, n)
	for at := 1; at < n; at++ {
		back[at] = []int{at - 1}
	}
	circles(t, back, -1)
	back[5] = []int{n - 1}
	circles(t, back, 5)
	// Each leads to all behind it.
	full := make(graph, 600)
	for at := range full {
		for to := at + 1; to < len(full); to++ {
			full[at] = append(full[at], to)
		}
	}
	circles(t, full, -1)
	full[599] = []int{300}
	circles(t, full, 300)
	// Many lead to one ring, and no one of them is in it.
	many := make(graph, n)
	for at := range many {
		many[at] = []int{n - 2, n - 1}
	}
	many[n-2], many[n-1] = []int{n - 1}, []int{n - 2}
	circles(t, many, n-2)
}
