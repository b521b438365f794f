package simplex

import (
	"fmt"
	"math"
	"math/big"
	"math/rand"
	"slices"
	"testing"

	"escarpment/api"
	"escarpment/num"
	"escarpment/rat"
)

// 6.1

func TestExample(t *testing.T) {
	if a, _ := expectSolved(t, "6.1", problem("1 1,-1 -2", "1")); a.Kind != api.Infeasible {
		t.Error("6.1:", a)
	}
	if a, _ := expectSolved(t, "6.1", problem("1 1,-1 -2", "0")); a.Kind != api.Infeasible {
		t.Error("6.1:", a)
	}
}

func TestSolve(t *testing.T) {
	for _, c := range []struct {
		rows, c string
		kind    int
		v       string
	}{
		{"1 3", "1", api.Optimal, "3"},
		{"1 3", "-1", api.Unbounded, "0"},
		{"1 3", "0", api.Optimal, "0"},
		{"1 -3", "1", api.Optimal, "-3"},
		{"-1 -3", "1", api.Unbounded, "0"},
		{"-1 -3", "-2", api.Optimal, "-6"},
		{"1 3,1 2,1 5/2", "4", api.Optimal, "8"},
		{"1/3 1/2", "7", api.Optimal, "21/2"},
		{"1 2,-1 -2", "-5", api.Optimal, "-10"},
		{"1 2,-1 -3", "-5", api.Infeasible, "0"},
		{"0 0", "1", api.Unbounded, "0"},
		{"0 -1", "1", api.Infeasible, "0"},
		{"0 -1", "0", api.Infeasible, "0"},
		{"0 0,0 -1/1000000", "0", api.Infeasible, "0"},
		{"2 1 8,1 3 9,-1 0 0,0 -1 0", "3 2", api.Optimal, "13"},
		{"1 1 1,-1 -1 -1", "2 1", api.Unbounded, "0"},
		{"1 1 1,-1 -1 -1", "2 2", api.Optimal, "2"},
		{"1 1 1,-1 -1 -1,-1 -1 -1,-2 -2 -2", "2 2", api.Optimal, "2"},
		{"1 1 1,-1 -1 -2", "2 2", api.Infeasible, "0"},
		{"1 0 5,0 1 6,-1 -1 -11", "1 -1", api.Optimal, "-1"},
		{"1 0 5,0 1 6,-1 -1 -12", "1 -1", api.Infeasible, "0"},
		{"1 0 -5,0 1 -6", "1/5 1/6", api.Optimal, "-2"},
		{"1 0 1,0 1 1,-1 -1 -5/2", "0 0", api.Infeasible, "0"},
		{"1 -1 0,-1 1 0", "1 1", api.Unbounded, "0"},
		{"1 -1 0,-1 1 0", "1 -1", api.Optimal, "0"},
		{"1 1 1 6,1 -1 0 0,0 1 -1 0,-1 0 0 -1", "0 0 1", api.Optimal, "4"},
		{"1 18446744073709551616", "18446744073709551616", api.Optimal, "340282366920938463463374607431768211456"},
		{"3 123456789012345678901234567891/7", "7", api.Optimal, "123456789012345678901234567891/3"},
		{"1/18446744073709551617 1,-1/18446744073709551617 -1", "1", api.Optimal, "18446744073709551617"},
		{"1/18446744073709551617 1,-1/18446744073709551616 -1", "1", api.Optimal, "18446744073709551617"},
		{"1/18446744073709551616 1,-1/18446744073709551617 -1", "1", api.Infeasible, "0"},
	} {
		a, _ := expectSolved(t, "6.1", problem(c.rows, c.c))
		if a.Kind != c.kind || rat.Text(a.V) != c.v {
			t.Error("6.1:", c, "comes to", a.Kind, rat.Text(a.V))
		}
	}
}

// TestSolveOfNone: without rows, without numbers, and without either; nil and empty lists are one.
func TestSolveOfNone(t *testing.T) {
	for _, c := range []struct {
		p    api.LP
		kind int
	}{
		{api.LP{}, api.Optimal},
		{api.LP{A: [][]api.Rat{}, B: []api.Rat{}, C: []api.Rat{}}, api.Optimal},
		{problem("", "0"), api.Optimal},
		{problem("", "0 0 0"), api.Optimal},
		{problem("", "0 0 1/9"), api.Unbounded},
		{problem("", "-1 0 0"), api.Unbounded},
		{problem("0", ""), api.Optimal},
		{problem("3,0,1/7", ""), api.Optimal},
		{problem("3,0,-1/7", ""), api.Infeasible},
		{problem("-1", ""), api.Infeasible},
		{problem("-1,-2,-3", ""), api.Infeasible},
		{api.LP{A: [][]api.Rat{{}, nil}, B: row("1 -1"), C: []api.Rat{}}, api.Infeasible},
		{api.LP{N: 2, B: []api.Rat{}, C: make([]api.Rat, 2)}, api.Optimal},
	} {
		if a, _ := expectSolved(t, "6.1", c.p); a.Kind != c.kind {
			t.Error("6.1:", c.p, "comes to", a.Kind)
		}
	}
}

// TestSolveWithoutSteps: where nothing is to be made better there is no pivot, and else as few as it takes.
func TestSolveWithoutSteps(t *testing.T) {
	for _, c := range []struct {
		rows, c string
		want    int
	}{
		{"", "", 0}, {"", "0 0", 0}, {"", "1", 0}, {"0", "", 0}, {"-1", "", 0}, {"0 -1", "1", 0}, {"1 3,-1 0", "0", 0}, {"1 0", "-1", 0},
		{"1 3", "1", 1}, {"1 -3", "1", 1}, {"1 1,-1 -2", "1", 1}, {"1 3,-1 -2", "0", 1}, {"1 3,-1 -2", "1", 2},
		// Rows that x comes to at once, ahead of them one without a lack: what the others lack is nought by then, and goes.
		{"1 1 1,-1 -1 -1", "0 0", 2}, {"1 1 1,-1 -1 -1", "1 2", 2},
		{"1 1,-1 -1,-1 -1", "0", 3},
	} {
		if _, pivots := expectSolved(t, "6.1", problem(c.rows, c.c)); pivots != c.want {
			t.Error("6.1:", c, "takes", pivots, "pivots")
		}
	}
}

// TestSolveOfMade: problems with a known kind of answer, and of Optimal a known V.
func TestSolveOfMade(t *testing.T) {
	eachMade(61, 250, func(p api.LP, want api.Answer) {
		a, _ := expectSolved(t, "6.1", p)
		if a.Kind != want.Kind || rat.Cmp(a.V, want.V) != 0 {
			t.Error("6.1:", p, "comes to", a, "want", want)
		}
	})
}

func TestSolveOfSmall(t *testing.T) {
	seen := map[int]int{}
	eachSmall(func(p api.LP) {
		a, _ := expectSolved(t, "6.1", p)
		seen[a.Kind]++
	})
	for kind := api.Optimal; kind <= api.Unbounded; kind++ {
		if seen[kind] < 1000 {
			t.Error("a kind is hardly tried", seen)
		}
	}
}

// TestTies: problems in which many rows meet at one point, where other rules go round in circles.
func TestTies(t *testing.T) {
	for _, c := range []struct {
		p    api.LP
		kind int
		v    string
	}{
		{boxed("1/4 -60 -1/25 9 0,1/2 -90 -1/50 3 0,0 0 1 0 1", "3/4 -150 1/50 -6"), api.Optimal, "1/20"},
		{boxed("1/4 -8 -1 9 0,1/2 -12 -1/2 3 0,0 0 1 0 1", "3/4 -20 1/2 -6"), api.Optimal, "5/4"},
		{boxed("1/2 -11/2 -5/2 9 0,1/2 -3/2 -1/2 1 0,1 0 0 0 1", "10 -57 -9 -24"), api.Optimal, "1"},
		{boxed("-2 -9 1 9 0,1/3 1 -1/3 -2 0,2 3 -1 -12 2", "2 3 -1 -12"), api.Optimal, "2"},
		{boxed("-2 -9 1 9 0,1/3 1 -1/3 -2 0", "2 3 -1 -12"), api.Unbounded, "0"},
		{problem("1 1 0,1 -1 0,-1 1 0,-1 -1 0,1 0 0,-1 0 0,0 1 0,0 -1 0", "5 -7"), api.Optimal, "0"},
		{problem("-1 -1 -2,-1 0 -1,0 -1 -1,-2 -1 -3,1 1 2", "3 4"), api.Optimal, "7"},
	} {
		if a, _ := expectSolved(t, "6.1", c.p); a.Kind != c.kind || rat.Text(a.V) != c.v {
			t.Error("6.1:", c.p, "comes to", a.Kind, rat.Text(a.V), "want", c.kind, c.v)
		}
	}
}

// TestAllTied: all bounds are nought, so that all rows meet.
func TestAllTied(t *testing.T) {
	r := rand.New(rand.NewSource(62))
	seen := map[int]int{}
	for range 400 {
		n, count := 1+r.Intn(6), r.Intn(12)
		p := api.LP{N: n, B: slices.Repeat(row("0"), count), C: randomRow(r, n, 2)}
		for range count {
			p.A = append(p.A, randomRow(r, n, 2))
		}
		a, _ := expectSolved(t, "6.1", p)
		seen[a.Kind]++
	}
	if seen[api.Optimal] < 50 || seen[api.Unbounded] < 50 || seen[api.Infeasible] > 0 {
		t.Error("6.1: kinds", seen)
	}
}

// TestCube: many corners, up to as many rows as may be.
func TestCube(t *testing.T) {
	for _, n := range []int{1, 2, 7, 30} {
		p := api.LP{N: n, C: slices.Repeat(row("1"), n)}
		for k := range n {
			up, low := slices.Repeat(row("0"), n), slices.Repeat(row("0"), n)
			up[k], low[k] = rat.Of(1), rat.Of(-1)
			p.A, p.B = append(p.A, up, low), append(p.B, rat.Of(2), rat.Of(-1))
		}
		if a, _ := expectSolved(t, "6.1", p); a.Kind != api.Optimal || rat.Cmp(a.V, rat.Of(int64(2*n))) != 0 {
			t.Error("6.1: a cube of", n, "comes to", a)
		}
	}
}

func TestBentCube(t *testing.T) {
	for n := 1; n <= 9; n++ {
		if a, _ := expectSolved(t, "6.1", kleeMinty(n)); a.Kind != api.Optimal || rat.Cmp(a.V, power(5, n)) != 0 {
			t.Error("6.1: a bent cube of", n, "comes to", a)
		}
	}
}

// TestGreatest: problems of as many rows and numbers as may be.
func TestGreatest(t *testing.T) {
	r := rand.New(rand.NewSource(63))
	most := api.MaxLP
	for _, size := range [][2]int{{most, most}, {most, 5}, {5, most}, {0, most}, {most, 0}} {
		for i, made := range []func(*rand.Rand, int, int, int) (api.LP, api.Answer){makeOptimal, makeInfeasible, makeUnbounded} {
			if i > 0 && size[2-i] == 0 {
				continue
			}
			p, want := made(r, size[0], size[1], 1)
			if a, _ := expectSolved(t, "6.1", p); a.Kind != want.Kind || rat.Cmp(a.V, want.V) != 0 {
				t.Error("6.1:", size, "comes to", a, "want", want)
			}
		}
	}
}

// TestErrArg: a problem that is not right.
func TestErrArg(t *testing.T) {
	for i, p := range notRight() {
		a, pivots, e := Solve(p)
		if e != api.ErrArg || pivots != 0 || a.Kind != 0 || !isZero(a.V) || len(a.X)+len(a.Y)+len(a.Ray) > 0 {
			t.Error("6.1: case", i, a, pivots, e)
		}
	}
}

// notRight tells problems of which one count is wrong.
func notRight() []api.LP {
	sized := func(n, count int) api.LP {
		p := api.LP{N: n, C: slices.Repeat(row("0"), n), B: slices.Repeat(row("1"), count)}
		for range count {
			p.A = append(p.A, slices.Repeat(row("1"), n))
		}
		return p
	}
	all := []api.LP{{N: -1}, {N: math.MinInt}, {N: 1}, {N: math.MaxInt}, {C: row("1")}, {B: row("1")}, {A: [][]api.Rat{{}}}, sized(61, 0), sized(0, 61), sized(61, 61), sized(1000, 1)}
	for _, n := range []int{1, 3, 60} {
		for _, count := range []int{1, 2, 60} {
			for _, do := range []func(p *api.LP){
				func(p *api.LP) { p.N-- }, func(p *api.LP) { p.N++ }, func(p *api.LP) { p.N = -p.N },
				func(p *api.LP) { p.C = p.C[1:] }, func(p *api.LP) { p.C = append(p.C, p.C[0]) },
				func(p *api.LP) { p.B = p.B[1:] }, func(p *api.LP) { p.B = append(p.B, p.B[0]) },
				func(p *api.LP) { p.A = p.A[1:] }, func(p *api.LP) { p.A = append(p.A, p.A[0]) },
				func(p *api.LP) { p.A[count-1] = nil }, func(p *api.LP) { p.A[0] = p.A[0][1:] },
				func(p *api.LP) { p.A[count-1] = append(p.A[count-1], p.B[0]) },
			} {
				p := sized(n, count)
				do(&p)
				all = append(all, p)
			}
		}
	}
	return all
}

// TestCountsAsNought: what may not be counts as nought, wherever it stands.
func TestCountsAsNought(t *testing.T) {
	for _, bad := range append(wrong(), noughts()...) {
		for _, c := range []struct {
			rows, c string
			kind    int
		}{
			{"7 1 2,-1 7 0,7 -1 7", "7 1", api.Optimal}, {"7 1 2", "1 7", api.Unbounded}, {"1 7 7,-1 7 -2", "7 7", api.Infeasible},
			{"7 7", "7", api.Optimal}, {"7 -1", "7", api.Infeasible}, {"1 7", "7", api.Optimal}, {"7 2", "1", api.Unbounded},
		} {
			p, q := problem(c.rows, c.c), problem(c.rows, c.c)
			swap := func(p api.LP, by api.Rat) {
				for _, l := range append(slices.Clone(p.A), p.B, p.C) {
					for k, n := range l {
						if rat.Text(n) == "7" {
							l[k] = by
						}
					}
				}
			}
			swap(p, bad)
			swap(q, rat.Of(0))
			a, pivots := expectSolved(t, "6.1", p)
			want, wanted := expectSolved(t, "6.1", q)
			if a.Kind != c.kind || fmt.Sprint(a) != fmt.Sprint(want) || pivots != wanted {
				t.Error("6.1:", bad, c, "comes to", a, pivots, "want", want, wanted)
			}
		}
	}
}

func TestPivots(t *testing.T) {
	for _, c := range []struct {
		rows, columns int
		want          string
	}{
		{0, 0, "2"}, {0, 1, "2"}, {0, 60, "2"}, {1, 0, "5"}, {1, 1, "9"}, {2, 1, "32"}, {1, 2, "13"}, {2, 2, "58"}, {3, 3, "443"},
		{-1, 0, "2"}, {0, -1, "2"}, {1, -7, "5"}, {-7, 1, "2"}, {math.MinInt, math.MinInt, "2"}, {1, math.MaxInt, "245"}, {math.MinInt, math.MaxInt, "2"},
	} {
		if s := num.Text(Pivots(c.rows, c.columns)); s != c.want {
			t.Error("6.1: Pivots", c, "is", s)
		}
	}
}

func TestPivotsAgainstBig(t *testing.T) {
	for rows := -2; rows <= 63; rows++ {
		for columns := -2; columns <= 63; columns++ {
			count, width := int64(min(max(rows, 0), 60)), int64(min(max(columns, 0), 60))
			want := new(big.Int).Binomial(2*width+2*count, count)
			want.Add(want.Lsh(want, 1), big.NewInt(count))
			if got := Pivots(rows, columns); !num.May(got) || num.Text(got) != want.String() {
				t.Error("6.1: Pivots", rows, columns, num.Text(got), "want", want)
			}
		}
	}
	top := Pivots(api.MaxLP, api.MaxLP)
	for _, n := range []int{61, 62, 1000, math.MaxInt32, math.MaxInt} {
		if num.Cmp(Pivots(n, api.MaxLP), top) != 0 || num.Cmp(Pivots(api.MaxLP, n), top) != 0 || num.Cmp(Pivots(n, n), top) != 0 {
			t.Error("6.1: Pivots of", n)
		}
	}
}
