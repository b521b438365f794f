package lp

import (
	"testing"

	"escarpment/api"
	"escarpment/rat"
)

// 5.3

// grid tells all rows of n of these numbers.
func grid(n int, of []api.Rat) [][]api.Rat {
	all := [][]api.Rat{nil}
	for range n {
		var next [][]api.Rat
		for _, l := range all {
			for _, a := range of {
				next = append(next, append(l[:len(l):len(l)], a))
			}
		}
		all = next
	}
	return all
}

// found is what holds of a problem, among small points, weights and rays.
type found struct {
	kinds  map[int]bool
	values map[string]bool
	v      api.Rat
}

// findAll asks Holds of all small answers of all kinds.
func findAll(p api.LP) found {
	f := found{kinds: map[int]bool{}, values: map[string]bool{}}
	points, weights := grid(p.N, row("-1 0 1 2")), grid(len(p.A), row("0 1 2"))
	for _, y := range weights {
		if Holds(p, api.Answer{Kind: api.Infeasible, Y: y}) {
			f.kinds[api.Infeasible] = true
		}
	}
	for _, x := range points {
		for _, y := range weights {
			for _, v := range row("-4 -3 -2 -1 0 1 2 3 4") {
				if Holds(p, api.Answer{Kind: api.Optimal, V: v, X: x, Y: y}) {
					f.kinds[api.Optimal], f.values[rat.Text(v)], f.v = true, true, v
				}
			}
		}
		for _, ray := range grid(p.N, row("-1 0 1")) {
			if Holds(p, api.Answer{Kind: api.Unbounded, X: x, Ray: ray}) {
				f.kinds[api.Unbounded] = true
			}
		}
	}
	return f
}

// TestOneKind: of small problems (all of up to six cells, of those of more one in 29) no two kinds of answers hold, V is one, and no point that is Within has more.
func TestOneKind(t *testing.T) {
	seen := map[int]int{}
	for n := range 3 {
		for count := range 3 {
			for i, cells := range grid(count*(n+1)+n, row("-1 0 1")) {
				// Those of the most cells are many: a part of them is enough.
				if count*(n+1)+n > 6 && i%29 != 0 {
					continue
				}
				p := cut(cells, n, count)
				f := findAll(p)
				if len(f.kinds) > 1 || len(f.values) > 1 {
					t.Error("5.3: two kinds, or two values", p, f.kinds, f.values)
				}
				for kind := range f.kinds {
					seen[kind]++
				}
				if f.kinds[api.Optimal] {
					noneAbove(t, p, f.v)
				}
			}
		}
	}
	for kind := api.Optimal; kind <= api.Unbounded; kind++ {
		if seen[kind] < 50 {
			t.Error("a kind is hardly tried", seen)
		}
	}
}

// cut makes a problem of n numbers and so many rows from cells.
func cut(cells []api.Rat, n, count int) api.LP {
	p := api.LP{N: n, C: cells[:n]}
	cells = cells[n:]
	for range count {
		p.A, p.B = append(p.A, cells[:n]), append(p.B, cells[n])
		cells = cells[n+1:]
	}
	return p
}

func noneAbove(t *testing.T, p api.LP, v api.Rat) {
	t.Helper()
	for _, x := range grid(p.N, row("-7 -1 -1/2 0 1/3 1 5/2 9")) {
		if Within(p, x) && rat.Cmp(dotOf(p.C, x), v) > 0 {
			t.Error("5.3: more than V", p, x, rat.Text(v))
		}
	}
}

// TestNoneAboveV: of greater problems, too, no point on the way from X to any other has more than V and is Within.
func TestNoneAboveV(t *testing.T) {
	eachMade(57, 150, func(p api.LP, a api.Answer) {
		if a.Kind != api.Optimal {
			return
		}
		for k := range p.N {
			for _, by := range row("1 -1 1/64 -1/64 1000 -1000") {
				x := append([]api.Rat{}, a.X...)
				x[k] = rat.Add(x[k], by)
				if Within(p, x) && rat.Cmp(dotOf(p.C, x), a.V) > 0 {
					t.Error("5.3: more than V", p, x)
				}
			}
		}
	})
}
