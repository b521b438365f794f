package simplex

import (
	"math/big"
	"math/rand"
	"slices"
	"strings"
	"testing"

	"escarpment/api"
	"escarpment/lp"
	"escarpment/num"
	"escarpment/rat"
	"escarpment/vec"
)

// row reads quotients with blanks between them.
func row(s string) []api.Rat {
	var l []api.Rat
	for _, word := range strings.Fields(s) {
		l = append(l, read(word))
	}
	return l
}

func read(s string) api.Rat {
	a, e := rat.Read(s)
	if e != api.OK {
		panic("no quotient: " + s)
	}
	return a
}

// problem reads rows with commas between them, each with its bound behind it; c is what is to be greatest.
func problem(rows, c string) api.LP {
	p := api.LP{C: row(c)}
	p.N = len(p.C)
	if rows == "" {
		return p
	}
	for _, part := range strings.Split(rows, ",") {
		l := row(part)
		p.A = append(p.A, l[:len(l)-1:len(l)-1])
		p.B = append(p.B, l[len(l)-1])
	}
	return p
}

// bigOf tells what a counts as, as math/big does.
func bigOf(a api.Rat) *big.Rat {
	n, _ := new(big.Rat).SetString(rat.Text(a))
	return n
}

func bigDot(a, b []api.Rat) *big.Rat {
	sum := new(big.Rat)
	for i := range a {
		sum.Add(sum, new(big.Rat).Mul(bigOf(a[i]), bigOf(b[i])))
	}
	return sum
}

// column tells the k-th number of each row.
func column(m [][]api.Rat, k int) []api.Rat {
	var l []api.Rat
	for _, r := range m {
		l = append(l, r[k])
	}
	return l
}

// trueWithin is Within, of a problem that is right, by math/big's hand.
func trueWithin(p api.LP, x []api.Rat) bool {
	if len(x) != p.N {
		return false
	}
	for i, r := range p.A {
		if bigDot(r, x).Cmp(bigOf(p.B[i])) > 0 {
			return false
		}
	}
	return true
}

// trueHolds is Holds, of a problem that is right, by math/big's hand.
func trueHolds(p api.LP, a api.Answer) bool {
	v := bigOf(a.V)
	switch a.Kind {
	case api.Optimal:
		return trueWithin(p, a.X) && trueLeft(p, a.Y, p.C) && bigDot(p.C, a.X).Cmp(v) == 0 && bigDot(a.Y, p.B).Cmp(v) == 0 && len(a.Ray) == 0
	case api.Infeasible:
		return trueLeft(p, a.Y, make([]api.Rat, p.N)) && bigDot(a.Y, p.B).Sign() < 0 && len(a.X)+len(a.Ray) == 0 && v.Sign() == 0
	case api.Unbounded:
		if !trueWithin(p, a.X) || len(a.Ray) != p.N || len(a.Y) != 0 || v.Sign() != 0 {
			return false
		}
		for _, r := range p.A {
			if bigDot(r, a.Ray).Sign() > 0 {
				return false
			}
		}
		return bigDot(p.C, a.Ray).Sign() > 0
	}
	return false
}

// trueLeft: y has a number for each row, none below nought, and the rows times them make want.
func trueLeft(p api.LP, y, want []api.Rat) bool {
	if len(y) != len(p.A) {
		return false
	}
	for _, n := range y {
		if bigOf(n).Sign() < 0 {
			return false
		}
	}
	for k := range want {
		if bigDot(y, column(p.A, k)).Cmp(bigOf(want[k])) != 0 {
			return false
		}
	}
	return true
}

// wrong are such as may not be: by a part, by the denominator, by a factor in common.
func wrong() []api.Rat {
	n := num.Of
	return []api.Rat{
		{P: api.Int{Neg: true}}, {P: api.Int{Neg: true}, Q: n(1)}, {P: api.Int{L: []uint32{5, 0}}, Q: n(1)},
		{P: n(5), Q: api.Int{L: []uint32{1, 0}}}, {P: n(5)}, {P: n(-5)}, {Q: n(2)}, {Q: n(-1)}, {P: n(3), Q: n(-2)},
		{P: n(4), Q: n(6)}, {P: n(-4), Q: n(2)}, {P: n(7), Q: n(7)},
	}
}

// noughts are all that may be and are nought.
func noughts() []api.Rat {
	empty := api.Int{L: []uint32{}}
	return []api.Rat{{}, {P: empty, Q: empty}, {Q: num.Of(1)}, {P: empty, Q: num.Of(1)}}
}

// random tells a quotient in its least form, one in eight of them nought.
func random(r *rand.Rand, bits int) api.Rat {
	if r.Intn(8) == 0 {
		return rat.Of(0)
	}
	a := new(big.Rat).SetFrac(randomInt(r, bits), randomInt(r, bits))
	if r.Intn(2) == 0 {
		a.Neg(a)
	}
	return read(a.RatString())
}

// randomInt tells one above nought.
func randomInt(r *rand.Rand, bits int) *big.Int {
	n := new(big.Int).Rand(r, new(big.Int).Lsh(big.NewInt(1), uint(1+r.Intn(bits))))
	return n.Add(n, big.NewInt(1))
}

func randomRow(r *rand.Rand, n, bits int) []api.Rat {
	l := make([]api.Rat, n)
	for i := range l {
		l[i] = random(r, bits)
	}
	return l
}

func randomRows(r *rand.Rand, count, n, bits int) [][]api.Rat {
	m := make([][]api.Rat, count)
	for i := range m {
		m[i] = randomRow(r, n, bits)
	}
	return m
}

// notBelow tells a without its sign.
func notBelow(a api.Rat) api.Rat {
	if rat.Cmp(a, rat.Of(0)) < 0 {
		return rat.Sub(rat.Of(0), a)
	}
	return a
}

func dotOf(a, b []api.Rat) api.Rat {
	d, e := vec.Dot(a, b)
	if e != api.OK {
		panic("unlike lengths")
	}
	return d
}

// bounds tells b such that A x is below it by a number that is not below nought, and by none where tight is.
func bounds(r *rand.Rand, a [][]api.Rat, x []api.Rat, bits int, tight func(at int) bool) []api.Rat {
	var b []api.Rat
	for i, l := range a {
		n := dotOf(l, x)
		if !tight(i) {
			n = rat.Add(n, notBelow(random(r, bits)))
		}
		b = append(b, n)
	}
	return b
}

// makeOptimal tells a problem with an answer to it: a weight above nought stands only where x reaches the bound.
func makeOptimal(r *rand.Rand, n, count, bits int) (api.LP, api.Answer) {
	p := api.LP{N: n, A: randomRows(r, count, n, bits)}
	x, y := randomRow(r, n, bits), randomRow(r, count, bits)
	for i := range y {
		y[i] = notBelow(y[i])
		if r.Intn(3) == 0 {
			y[i] = rat.Of(0)
		}
	}
	p.B = bounds(r, p.A, x, bits, func(at int) bool { return bigOf(y[at]).Sign() > 0 })
	p.C, _ = vec.Left(y, p.A, n)
	return p, api.Answer{Kind: api.Optimal, V: dotOf(p.C, x), X: x, Y: y}
}

// makeInfeasible tells a problem with an answer to it: its last row, of at least one, takes all others back.
func makeInfeasible(r *rand.Rand, n, count, bits int) (api.LP, api.Answer) {
	p := api.LP{N: n, A: randomRows(r, count-1, n, bits), B: randomRow(r, count-1, bits), C: randomRow(r, n, bits)}
	y := randomRow(r, count-1, bits)
	for i := range y {
		y[i] = notBelow(y[i])
	}
	last, _ := vec.Left(y, p.A, n)
	for k := range last {
		last[k] = rat.Sub(rat.Of(0), last[k])
	}
	bound := rat.Sub(rat.Of(-1), rat.Add(dotOf(y, p.B), notBelow(random(r, bits))))
	p.A, p.B = append(p.A, last), append(p.B, bound)
	return p, api.Answer{Kind: api.Infeasible, Y: append(y, rat.Of(1))}
}

// makeUnbounded tells a problem with an answer to it: all rows fall along the ray, of at least one number, and C rises.
func makeUnbounded(r *rand.Rand, n, count, bits int) (api.LP, api.Answer) {
	p := api.LP{N: n, A: randomRows(r, count, n, bits)}
	x, ray := randomRow(r, n, bits), randomRow(r, n, bits)
	ray[r.Intn(n)] = rat.Of(1)
	for i, l := range p.A {
		if bigDot(l, ray).Sign() > 0 {
			p.A[i], _ = vec.Plus(make([]api.Rat, n), rat.Of(-1), l)
		}
	}
	p.B = bounds(r, p.A, x, bits, func(int) bool { return r.Intn(3) == 0 })
	p.C = slices.Clone(ray)
	return p, api.Answer{Kind: api.Unbounded, X: x, Ray: ray}
}

// eachMade goes through problems of all kinds with an answer that holds, of many sizes.
func eachMade(seed int64, rounds int, do func(p api.LP, a api.Answer)) {
	r := rand.New(rand.NewSource(seed))
	for i := range rounds {
		n, count, bits := r.Intn(6), r.Intn(6), 1+i%70
		do(makeOptimal(r, n, count, bits))
		do(makeInfeasible(r, n, count+1, bits))
		do(makeUnbounded(r, n+1, count, bits))
	}
}

// expectSolved: Solve tells an answer that holds, in the form that answers have, and no more pivots than Pivots tells.
func expectSolved(t *testing.T, what string, p api.LP) (api.Answer, int) {
	t.Helper()
	a, pivots, e := Solve(p)
	if e != api.OK || !lp.Holds(p, a) || !trueHolds(p, a) {
		t.Fatalf("%s: Solve(%v) is %v, %d, which does not hold", what, p, a, e)
	}
	for _, n := range slices.Concat(a.X, a.Y, a.Ray) {
		if !isInForm(n) {
			t.Errorf("%s: Solve(%v) is %v, %v is not as it is told", what, p, a, n)
		}
	}
	if a.Kind == api.Optimal && !isInForm(a.V) || a.Kind != api.Optimal && !isZero(a.V) {
		t.Errorf("%s: Solve(%v) has V %v", what, p, a.V)
	}
	if most := Pivots(len(p.A), p.N); pivots < 0 || num.Cmp(num.Of(int64(pivots)), most) > 0 {
		t.Errorf("6.2: Solve(%v) makes %d pivots, more than %s", p, pivots, num.Text(most))
	}
	return a, pivots
}

// isInForm: a has the one form in which numbers are told.
func isInForm(a api.Rat) bool {
	return rat.May(a) && len(a.Q.L) > 0
}

// isZero: the zero value itself, not a nought with a denominator.
func isZero(a api.Rat) bool {
	return !a.P.Neg && !a.Q.Neg && len(a.P.L) == 0 && len(a.Q.L) == 0
}

// boxed is problem, with a row below these for each number of x that keeps it from going below nought.
func boxed(rows, c string) api.LP {
	p := problem(rows, c)
	for k := range p.N {
		l := slices.Repeat(row("0"), p.N)
		l[k] = rat.Of(-1)
		p.A, p.B = append(p.A, l), append(p.B, rat.Of(0))
	}
	return p
}

// grid tells all rows of n of these numbers.
func grid(n int, of []api.Rat) [][]api.Rat {
	all := [][]api.Rat{nil}
	for range n {
		var next [][]api.Rat
		for _, l := range all {
			for _, a := range of {
				next = append(next, append(l[:len(l):len(l)], a))
			}
		}
		all = next
	}
	return all
}

// cut makes a problem of n numbers and so many rows from cells.
func cut(cells []api.Rat, n, count int) api.LP {
	p := api.LP{N: n, C: cells[:n]}
	cells = cells[n:]
	for range count {
		p.A, p.B = append(p.A, cells[:n]), append(p.B, cells[n])
		cells = cells[n+1:]
	}
	return p
}

// eachSmall goes through problems of at most two numbers and three rows: all of up to eight cells, of those of more one
// in 61.
func eachSmall(do func(p api.LP)) {
	for n := range 3 {
		for count := range 4 {
			size := count*(n+1) + n
			for i, cells := range grid(size, row("-1 0 1")) {
				if size <= 8 || i%61 == 0 {
					do(cut(cells, n, count))
				}
			}
		}
	}
}

// kleeMinty tells a bent cube of n numbers, the edges of which a way up may go through all of.
func kleeMinty(n int) api.LP {
	p := api.LP{N: n}
	for k := range n {
		l, low := slices.Repeat(row("0"), n), slices.Repeat(row("0"), n)
		l[k], low[k] = rat.Of(1), rat.Of(-1)
		for j := range k {
			l[j] = rat.Of(2 << (k - j))
		}
		p.A, p.B = append(p.A, l, low), append(p.B, power(5, k+1), rat.Of(0))
		p.C = append(p.C, rat.Of(1<<(n-1-k)))
	}
	return p
}

func power(n int64, by int) api.Rat {
	a := rat.Of(1)
	for range by {
		a = rat.Mul(a, rat.Of(n))
	}
	return a
}
