package lp

import (
	"math"
	"math/rand"
	"slices"
	"testing"

	"escarpment/api"
	"escarpment/rat"
)

// 5.1

func TestRight(t *testing.T) {
	for _, c := range []struct{ rows, c string }{
		{"", ""}, {"", "1"}, {"", "1 2 3"}, {"3", ""}, {"-3,0,1/2", ""}, {"1 3", "1"}, {"1 2 3,4 5 6", "7 8"}, {"0 0,0 0,0 0", "0"},
	} {
		if p := problem(c.rows, c.c); !Right(p) {
			t.Error("5.1: not right", c)
		}
	}
}

// TestRightOfNone: nil and empty lists are one.
func TestRightOfNone(t *testing.T) {
	for i, p := range []api.LP{
		{A: [][]api.Rat{}, B: []api.Rat{}, C: []api.Rat{}}, {A: [][]api.Rat{nil, {}}, B: make([]api.Rat, 2)}, {N: 1, B: []api.Rat{}, C: make([]api.Rat, 1)},
	} {
		if !Right(p) {
			t.Error("5.1: not right, case", i)
		}
	}
}

// sized tells a problem of n numbers and so many rows.
func sized(n, count int) api.LP {
	p := api.LP{N: n, C: make([]api.Rat, n), B: make([]api.Rat, count)}
	for range count {
		p.A = append(p.A, make([]api.Rat, n))
	}
	return p
}

func TestRightLimits(t *testing.T) {
	for _, n := range []int{0, 1, 59, 60, 61, 62, 1000} {
		for _, count := range []int{0, 1, 59, 60, 61, 62, 1000} {
			p := sized(n, count)
			if want := n <= 60 && count <= 60; Right(p) != want || Within(p, make([]api.Rat, n)) != want {
				t.Error("5.1: Right, Within of", n, "numbers,", count, "rows")
			}
		}
	}
}

// TestRightCounts: each list one too short, one too long.
func TestRightCounts(t *testing.T) {
	for _, n := range []int{0, 1, 2, 5, 60} {
		for _, count := range []int{0, 1, 2, 5, 60} {
			for i, p := range miscounted(n, count) {
				if Right(p) || Within(p, make([]api.Rat, n)) || Within(p, make([]api.Rat, len(p.C))) {
					t.Error("5.1: Right, Within of", n, "numbers,", count, "rows, case", i)
				}
				for kind := -1; kind <= 4; kind++ {
					expectHolds(t, "5.2", p, api.Answer{Kind: kind, X: make([]api.Rat, n), Y: make([]api.Rat, count)}, false)
				}
			}
		}
	}
}

// miscounted tells problems that have one count wrong.
func miscounted(n, count int) []api.LP {
	var all []api.LP
	with := func(do func(p *api.LP)) {
		p := sized(n, count)
		do(&p)
		all = append(all, p)
	}
	with(func(p *api.LP) { p.B = append(p.B, rat.Of(0)) })
	with(func(p *api.LP) { p.C = append(p.C, rat.Of(0)) })
	with(func(p *api.LP) { p.N-- })
	with(func(p *api.LP) { p.N++ })
	if count > 0 {
		with(func(p *api.LP) { p.B = p.B[1:] })
		with(func(p *api.LP) { p.A = p.A[1:] })
	}
	if n > 0 {
		with(func(p *api.LP) { p.C = p.C[1:] })
	}
	for at := range count {
		with(func(p *api.LP) { p.A[at] = append(p.A[at], rat.Of(0)) })
		if n > 0 {
			with(func(p *api.LP) { p.A[at] = p.A[at][1:] })
			with(func(p *api.LP) { p.A[at] = nil })
		}
	}
	return all
}

func TestRightOfN(t *testing.T) {
	for _, n := range []int{-1, -2, -60, math.MinInt, math.MinInt32, 61, math.MaxInt32, math.MaxInt} {
		if p := (api.LP{N: n}); Right(p) || Within(p, nil) || Holds(p, api.Answer{Kind: api.Optimal}) {
			t.Error("5.1: N", n)
		}
	}
}

func TestWithin(t *testing.T) {
	for _, c := range []struct {
		rows, x string
		want    bool
	}{
		{"1 3", "3", true}, {"1 3", "2", true}, {"1 3", "-9", true}, {"1 3", "4", false}, {"1 3", "7/2", false}, {"1/3 1", "3", true},
		{"1/3 1", "28/9", false}, {"1 3,-1 -3", "3", true}, {"1 3,-1 -3", "2", false}, {"1 3,-1 -4", "3", false}, {"1 3,-1 -4", "4", false},
		{"1 1 4,1 -1 2,-1 0 0", "3 1", true}, {"1 1 4,1 -1 2,-1 0 0", "4 0", false}, {"1 1 4,1 -1 2,-1 0 0", "-1 0", false},
		{"0 0 0", "5 6", true}, {"0 0 -1", "5 6", false}, {"0 0 1/9", "5 6", true},
		{"1 18446744073709551616", "18446744073709551616", true}, {"1 18446744073709551616", "18446744073709551617", false},
	} {
		p := problem(c.rows, "")
		p.N = len(row(c.x))
		p.C = make([]api.Rat, p.N)
		if Within(p, row(c.x)) != c.want {
			t.Error("5.1: Within", c)
		}
	}
}

// TestWithinOfNone: with no numbers only the bounds count; with no rows every x of N numbers is Within, and no other.
func TestWithinOfNone(t *testing.T) {
	for rows, want := range map[string]bool{"": true, "0": true, "1/2": true, "3,0": true, "-1": false, "3,-1/9": false, "-1/9,3": false} {
		if Within(problem(rows, ""), nil) != want || Within(problem(rows, ""), []api.Rat{}) != want {
			t.Error("5.1: Within of no numbers", rows)
		}
		if Within(problem(rows, ""), row("0")) {
			t.Error("5.1: Within of one too many", rows)
		}
	}
	for n := range 5 {
		for k := range 5 {
			if Within(sized(n, 0), slices.Repeat(row("9"), k)) != (n == k) || Within(sized(n, 2), make([]api.Rat, k)) != (n == k) {
				t.Error("5.1: Within of", n, "numbers,", k)
			}
		}
	}
}

// TestWithinEachRow: one row that does not hold is enough, wherever it stands, and be it by ever so little.
func TestWithinEachRow(t *testing.T) {
	r := rand.New(rand.NewSource(51))
	for i := range 200 {
		count, n, bits := 1+r.Intn(6), r.Intn(6), 1+i%60
		x := randomRow(r, n, bits)
		p := api.LP{N: n, A: randomRows(r, count, n, bits), C: randomRow(r, n, bits)}
		p.B = bounds(r, p.A, x, bits, func(int) bool { return r.Intn(2) == 0 })
		if !Within(p, x) {
			t.Error("5.1: not Within", p, x)
		}
		for at := range p.B {
			low := p
			low.B = slices.Clone(p.B)
			low.B[at] = rat.Sub(dotOf(p.A[at], x), number("1/1000000000000000000000000"))
			if Within(low, x) {
				t.Error("5.1: Within", low, x, "row", at)
			}
		}
	}
}

func TestWithinAgainstBig(t *testing.T) {
	r := rand.New(rand.NewSource(52))
	seen := map[bool]int{}
	for i := range 3000 {
		n, count, bits := r.Intn(5), r.Intn(4), 1+i%50
		p := api.LP{N: n, A: randomRows(r, count, n, bits), B: randomRow(r, count, bits), C: randomRow(r, n, bits)}
		x := randomRow(r, n, bits)
		want := trueWithin(p, x)
		seen[want]++
		if Within(p, x) != want {
			t.Error("5.1: Within", p, x, "is not", want)
		}
	}
	if seen[true] < 300 || seen[false] < 300 {
		t.Error("one side is hardly tried", seen)
	}
}

// 5.2

func TestExample(t *testing.T) {
	p := problem("1 3", "1")
	expectHolds(t, "5.2", p, optimal("3", "3", "1"), true)
	for _, a := range []api.Answer{
		optimal("3", "2", "1"), optimal("2", "2", "1"), optimal("4", "4", "1"), optimal("3", "3", "2"), optimal("6", "3", "2"), optimal("3", "3", "1/2"),
		optimal("3", "3", ""), optimal("3", "", "1"), optimal("3", "3 0", "1"), optimal("3", "3", "1 0"), optimal("-3", "3", "1"), optimal("0", "3", "1"),
		infeasible("1"), infeasible("0"), infeasible(""), unbounded("3", "1"), unbounded("3", "-1"), unbounded("3", "0"), unbounded("3", ""),
	} {
		expectHolds(t, "5.2", p, a, false)
	}
}

func TestHoldsByHand(t *testing.T) {
	square := problem("1 0 2,-1 0 0,0 1 3,0 -1 0", "1 1")
	for _, c := range []struct {
		p api.LP
		a api.Answer
	}{
		{square, optimal("5", "2 3", "1 0 1 0")},
		{problem("1 1 4,1 -1 2,-1 0 0", "1 1"), optimal("4", "3 1", "1 0 0")},
		{problem("1 1 4,1 -1 2,-1 0 0", "1 1"), optimal("4", "5/2 3/2", "1 0 0")},
		{problem("2 3 1,3 2 1", "1 1"), optimal("2/5", "1/5 1/5", "1/5 1/5")},
		{problem("1 -3,-1 7", "-1"), optimal("7", "-7", "0 1")},
		{problem("1 1,1 1", "1"), optimal("1", "1", "1/3 2/3")},
		{problem("", "0 0"), optimal("0", "7 -1/2", "")},
		{problem("5,0", ""), optimal("0", "", "0 3")},
		{problem("", ""), optimal("0", "", "")},
		{problem("1 1,-1 -2", "1"), infeasible("1 1")},
		{problem("1 1,-1 -2", "0"), infeasible("1/7 1/7")},
		{problem("1 0 1,0 1 1,-1 -1 -5/2", "0 0"), infeasible("2 2 2")},
		{problem("0 0 -1", "1 1"), infeasible("1/9")},
		{problem("4,-1", ""), infeasible("1 5")},
		{problem("4,-1", ""), infeasible("0 1/2")},
		{problem("1 0 5", "0 1"), unbounded("5 0", "0 1")},
		{problem("1 0 5", "0 1"), unbounded("0 9", "-1 2")},
		{problem("", "-1"), unbounded("0", "-1/5")},
		{problem("1 -1 0,-1 1 0", "1 1"), unbounded("1 1", "1/2 1/2")},
	} {
		expectHolds(t, "5.2", c.p, c.a, true)
		others(t, c.p, c.a)
	}
}

// others: nothing else than what an answer needs may stand in it, and nothing of it may be away.
func others(t *testing.T, p api.LP, a api.Answer) {
	t.Helper()
	for _, kind := range []int{0, -1, 4, 5, math.MinInt, math.MaxInt, api.Optimal, api.Infeasible, api.Unbounded} {
		turned := a
		turned.Kind = kind
		expectHolds(t, "5.2: another kind", p, turned, kind == a.Kind)
	}
	lists := func(a *api.Answer) []*[]api.Rat { return []*[]api.Rat{&a.X, &a.Y, &a.Ray} }
	for i, l := range lists(&a) {
		turned := a
		at := lists(&turned)[i]
		*at = append(slices.Clone(*l), rat.Of(0))
		expectHolds(t, "5.2: one number more", p, turned, false)
		*at = []api.Rat{}
		expectHolds(t, "5.2: an empty list", p, turned, len(*l) == 0)
		if len(*l) > 0 {
			*at = (*l)[1:]
			expectHolds(t, "5.2: one number less", p, turned, false)
		}
	}
	for _, by := range row("1 -1 1/1000000000000") {
		turned := a
		turned.V = rat.Add(a.V, by)
		expectHolds(t, "5.2: another V", p, turned, false)
	}
}

func TestHoldsOfMade(t *testing.T) {
	eachMade(53, 300, func(p api.LP, a api.Answer) {
		expectHolds(t, "5.2", p, a, true)
		others(t, p, a)
	})
}

// TestHoldsAgainstBig holds answers that hold, and such as differ from them in one number, against math/big.
func TestHoldsAgainstBig(t *testing.T) {
	r := rand.New(rand.NewSource(54))
	seen := map[[2]int]int{}
	eachMade(55, 250, func(p api.LP, a api.Answer) {
		for _, l := range append(slices.Clone(p.A), p.B, p.C, a.X, a.Y, a.Ray) {
			for i, n := range l {
				l[i] = []api.Rat{rat.Add(n, random(r, 3)), rat.Sub(rat.Of(0), n), rat.Of(0)}[r.Intn(3)]
				want := trueHolds(p, a)
				expectHolds(t, "5.2", p, a, want)
				if want {
					seen[[2]int{a.Kind, 1}]++
				} else {
					seen[[2]int{a.Kind, 0}]++
				}
				l[i] = n
			}
		}
	})
	for kind := api.Optimal; kind <= api.Unbounded; kind++ {
		if seen[[2]int{kind, 0}] < 300 || seen[[2]int{kind, 1}] < 300 {
			t.Error("one side is hardly tried", seen)
		}
	}
}

// TestWeightsBelowNought: weights that make C, or nought, and bound well, but one of them is below nought.
func TestWeightsBelowNought(t *testing.T) {
	expectHolds(t, "5.2", problem("1 3,2 6", "1"), optimal("3", "3", "1/3 1/3"), true)
	expectHolds(t, "5.2", problem("1 3,2 6", "1"), optimal("3", "3", "-1 1"), false)
	expectHolds(t, "5.2", problem("1 3,2 6", "1"), optimal("3", "3", "3 -1"), false)
	expectHolds(t, "5.2", problem("1 3,1 1", "1"), infeasible("-1 1"), false)
	expectHolds(t, "5.2", problem("1 1,1 3", "1"), infeasible("1 -1"), false)
	expectHolds(t, "5.2", problem("4,1", ""), infeasible("-1 0"), false)
}

// TestEdgesOfSigns: just nought is enough, or not enough, as the document says.
func TestEdgesOfSigns(t *testing.T) {
	expectHolds(t, "5.2: weights that bound by nought", problem("1 1,-1 -1", "1"), infeasible("1 1"), false)
	expectHolds(t, "5.2: weights of nought", problem("1 1,-1 -2", "1"), infeasible("0 0"), false)
	expectHolds(t, "5.2: weights that make something", problem("1 -1", "1"), infeasible("1"), false)
	expectHolds(t, "5.2: weights that make something at the last place", problem("0 1 -1", "1 0"), infeasible("1"), false)
	expectHolds(t, "5.2: a ray along a row", problem("1 -1 0", "1 0"), unbounded("0 0", "1 1"), true)
	expectHolds(t, "5.2: a ray across a row", problem("1 -1 0", "1 0"), unbounded("0 0", "1 1/2"), false)
	expectHolds(t, "5.2: a ray across the last row", problem("0 0 0,1 -1 0", "1 0"), unbounded("0 0", "1 1/2"), false)
	expectHolds(t, "5.2: a ray that stays", problem("1 -1 0", "1 -1"), unbounded("0 0", "1 1"), false)
	expectHolds(t, "5.2: a ray that falls", problem("1 -1 0", "1 -2"), unbounded("0 0", "1 1"), false)
	expectHolds(t, "5.2: a ray from without", problem("1 -1 0", "1 0"), unbounded("1 0", "1 1"), false)
	expectHolds(t, "5.2: a ray of nothing", problem("", ""), unbounded("", ""), false)
}

// TestCountsAsNought: what may not be counts as nought, wherever it stands.
func TestCountsAsNought(t *testing.T) {
	for _, bad := range append(wrong(), noughts()...) {
		p := problem("0 1 2,-1 0 0,0 -1 0", "0 1")
		p.A[0][0], p.A[1][1], p.B[1], p.C[0] = bad, bad, bad, bad
		expectHolds(t, "5.2", p, api.Answer{Kind: api.Optimal, V: rat.Of(2), X: []api.Rat{bad, rat.Of(2)}, Y: []api.Rat{rat.Of(1), bad, bad}}, true)
		expectHolds(t, "5.2", p, api.Answer{Kind: api.Optimal, V: bad, X: []api.Rat{bad, rat.Of(2)}, Y: []api.Rat{rat.Of(1), bad, bad}}, false)
		if !Within(p, []api.Rat{bad, bad}) || Within(p, []api.Rat{bad, rat.Of(3)}) {
			t.Error("5.1: Within of", bad)
		}
		expectHolds(t, "5.2", problem("1 1,-1 -2", "1"), api.Answer{Kind: api.Infeasible, Y: row("1 1"), V: bad}, true)
		expectHolds(t, "5.2", problem("1 1,-1 -2", "1"), api.Answer{Kind: api.Infeasible, Y: row("1 1"), X: []api.Rat{bad}}, false)
		expectHolds(t, "5.2", problem("1 0 5", "0 1"), api.Answer{Kind: api.Unbounded, X: []api.Rat{bad, bad}, Ray: []api.Rat{bad, rat.Of(1)}, V: bad}, true)
		expectHolds(t, "5.2", problem("1 0 5", "0 1"), api.Answer{Kind: api.Unbounded, X: []api.Rat{bad, bad}, Ray: []api.Rat{bad, bad}}, false)
	}
}

// TestGreatest: problems of as many rows and numbers as may be.
func TestGreatest(t *testing.T) {
	r := rand.New(rand.NewSource(56))
	for _, made := range []func(*rand.Rand, int, int, int) (api.LP, api.Answer){makeOptimal, makeInfeasible, makeUnbounded} {
		p, a := made(r, api.MaxLP, api.MaxLP, 3)
		expectHolds(t, "5.2", p, a, true)
		last := api.MaxLP - 1
		p.B[last] = rat.Sub(p.B[last], rat.Of(1000000000))
		if a.Kind != api.Infeasible {
			expectHolds(t, "5.2", p, a, false)
		}
		p.A, p.B = append(p.A, p.A[0]), append(p.B, p.B[0])
		if a.Y != nil {
			a.Y = append(a.Y, rat.Of(0))
		}
		expectHolds(t, "5.2: one row too many", p, a, false)
	}
}
