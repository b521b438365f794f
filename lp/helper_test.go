package lp

import (
	"math/big"
	"math/rand"
	"slices"
	"strings"
	"testing"

	"escarpment/api"
	"escarpment/num"
	"escarpment/rat"
	"escarpment/vec"
)

// row reads quotients with blanks between them.
func row(s string) []api.Rat {
	var l []api.Rat
	for _, word := range strings.Fields(s) {
		l = append(l, number(word))
	}
	return l
}

func number(s string) api.Rat {
	a, e := rat.Read(s)
	if e != api.OK {
		panic("no quotient: " + s)
	}
	return a
}

// problem reads rows with commas between them, each with its bound behind it; c is what is to be greatest.
func problem(rows, c string) api.LP {
	p := api.LP{C: row(c)}
	p.N = len(p.C)
	if rows == "" {
		return p
	}
	for _, part := range strings.Split(rows, ",") {
		l := row(part)
		p.A = append(p.A, l[:len(l)-1:len(l)-1])
		p.B = append(p.B, l[len(l)-1])
	}
	return p
}

// The three kinds of answers, read.
func optimal(v, x, y string) api.Answer {
	return api.Answer{Kind: api.Optimal, V: number(v), X: row(x), Y: row(y)}
}

func infeasible(y string) api.Answer {
	return api.Answer{Kind: api.Infeasible, Y: row(y)}
}

func unbounded(x, ray string) api.Answer {
	return api.Answer{Kind: api.Unbounded, X: row(x), Ray: row(ray)}
}

// bigOf tells what a counts as, as math/big does.
func bigOf(a api.Rat) *big.Rat {
	n, _ := new(big.Rat).SetString(rat.Text(a))
	return n
}

func bigDot(a, b []api.Rat) *big.Rat {
	sum := new(big.Rat)
	for i := range a {
		sum.Add(sum, new(big.Rat).Mul(bigOf(a[i]), bigOf(b[i])))
	}
	return sum
}

// column tells the k-th number of each row.
func column(m [][]api.Rat, k int) []api.Rat {
	var l []api.Rat
	for _, r := range m {
		l = append(l, r[k])
	}
	return l
}

// trueWithin is Within, of a problem that is right, by math/big's hand.
func trueWithin(p api.LP, x []api.Rat) bool {
	if len(x) != p.N {
		return false
	}
	for i, r := range p.A {
		if bigDot(r, x).Cmp(bigOf(p.B[i])) > 0 {
			return false
		}
	}
	return true
}

// trueHolds is Holds, of a problem that is right, by math/big's hand.
func trueHolds(p api.LP, a api.Answer) bool {
	v := bigOf(a.V)
	switch a.Kind {
	case api.Optimal:
		return trueWithin(p, a.X) && trueLeft(p, a.Y, p.C) && bigDot(p.C, a.X).Cmp(v) == 0 && bigDot(a.Y, p.B).Cmp(v) == 0 && len(a.Ray) == 0
	case api.Infeasible:
		return trueLeft(p, a.Y, make([]api.Rat, p.N)) && bigDot(a.Y, p.B).Sign() < 0 && len(a.X)+len(a.Ray) == 0 && v.Sign() == 0
	case api.Unbounded:
		if !trueWithin(p, a.X) || len(a.Ray) != p.N || len(a.Y) != 0 || v.Sign() != 0 {
			return false
		}
		for _, r := range p.A {
			if bigDot(r, a.Ray).Sign() > 0 {
				return false
			}
		}
		return bigDot(p.C, a.Ray).Sign() > 0
	}
	return false
}

// trueLeft: y has a number for each row, none below nought, and the rows times them make want.
func trueLeft(p api.LP, y, want []api.Rat) bool {
	if len(y) != len(p.A) {
		return false
	}
	for _, n := range y {
		if bigOf(n).Sign() < 0 {
			return false
		}
	}
	for k := range want {
		if bigDot(y, column(p.A, k)).Cmp(bigOf(want[k])) != 0 {
			return false
		}
	}
	return true
}

// wrong are such as may not be: by a part, by the denominator, by a factor in common.
func wrong() []api.Rat {
	n := num.Of
	return []api.Rat{
		{P: api.Int{Neg: true}}, {P: api.Int{Neg: true}, Q: n(1)}, {P: api.Int{L: []uint32{5, 0}}, Q: n(1)},
		{P: n(5), Q: api.Int{L: []uint32{1, 0}}}, {P: n(5)}, {P: n(-5)}, {Q: n(2)}, {Q: n(-1)}, {P: n(3), Q: n(-2)},
		{P: n(4), Q: n(6)}, {P: n(-4), Q: n(2)}, {P: n(7), Q: n(7)},
	}
}

// noughts are all that may be and are nought.
func noughts() []api.Rat {
	empty := api.Int{L: []uint32{}}
	return []api.Rat{{}, {P: empty, Q: empty}, {Q: num.Of(1)}, {P: empty, Q: num.Of(1)}}
}

// random tells a quotient in its least form, one in eight of them nought.
func random(r *rand.Rand, bits int) api.Rat {
	if r.Intn(8) == 0 {
		return rat.Of(0)
	}
	a := new(big.Rat).SetFrac(randomInt(r, bits), randomInt(r, bits))
	if r.Intn(2) == 0 {
		a.Neg(a)
	}
	return number(a.RatString())
}

// randomInt tells one above nought.
func randomInt(r *rand.Rand, bits int) *big.Int {
	n := new(big.Int).Rand(r, new(big.Int).Lsh(big.NewInt(1), uint(1+r.Intn(bits))))
	return n.Add(n, big.NewInt(1))
}

func randomRow(r *rand.Rand, n, bits int) []api.Rat {
	l := make([]api.Rat, n)
	for i := range l {
		l[i] = random(r, bits)
	}
	return l
}

func randomRows(r *rand.Rand, count, n, bits int) [][]api.Rat {
	m := make([][]api.Rat, count)
	for i := range m {
		m[i] = randomRow(r, n, bits)
	}
	return m
}

// notBelow tells a without its sign.
func notBelow(a api.Rat) api.Rat {
	if rat.Cmp(a, rat.Of(0)) < 0 {
		return rat.Sub(rat.Of(0), a)
	}
	return a
}

func dotOf(a, b []api.Rat) api.Rat {
	d, e := vec.Dot(a, b)
	if e != api.OK {
		panic("unlike lengths")
	}
	return d
}

// bounds tells b such that A x is below it by a number that is not below nought, and by none where tight is.
func bounds(r *rand.Rand, a [][]api.Rat, x []api.Rat, bits int, tight func(at int) bool) []api.Rat {
	var b []api.Rat
	for i, l := range a {
		n := dotOf(l, x)
		if !tight(i) {
			n = rat.Add(n, notBelow(random(r, bits)))
		}
		b = append(b, n)
	}
	return b
}

// makeOptimal tells a problem with an answer to it: a weight above nought stands only where x reaches the bound.
func makeOptimal(r *rand.Rand, n, count, bits int) (api.LP, api.Answer) {
	p := api.LP{N: n, A: randomRows(r, count, n, bits)}
	x, y := randomRow(r, n, bits), randomRow(r, count, bits)
	for i := range y {
		y[i] = notBelow(y[i])
		if r.Intn(3) == 0 {
			y[i] = rat.Of(0)
		}
	}
	p.B = bounds(r, p.A, x, bits, func(at int) bool { return bigOf(y[at]).Sign() > 0 })
	p.C, _ = vec.Left(y, p.A, n)
	return p, api.Answer{Kind: api.Optimal, V: dotOf(p.C, x), X: x, Y: y}
}

// makeInfeasible tells a problem with an answer to it: its last row, of at least one, takes all others back.
func makeInfeasible(r *rand.Rand, n, count, bits int) (api.LP, api.Answer) {
	p := api.LP{N: n, A: randomRows(r, count-1, n, bits), B: randomRow(r, count-1, bits), C: randomRow(r, n, bits)}
	y := randomRow(r, count-1, bits)
	for i := range y {
		y[i] = notBelow(y[i])
	}
	last, _ := vec.Left(y, p.A, n)
	for k := range last {
		last[k] = rat.Sub(rat.Of(0), last[k])
	}
	bound := rat.Sub(rat.Of(-1), rat.Add(dotOf(y, p.B), notBelow(random(r, bits))))
	p.A, p.B = append(p.A, last), append(p.B, bound)
	return p, api.Answer{Kind: api.Infeasible, Y: append(y, rat.Of(1))}
}

// makeUnbounded tells a problem with an answer to it: all rows fall along the ray, of at least one number, and C rises.
func makeUnbounded(r *rand.Rand, n, count, bits int) (api.LP, api.Answer) {
	p := api.LP{N: n, A: randomRows(r, count, n, bits)}
	x, ray := randomRow(r, n, bits), randomRow(r, n, bits)
	ray[r.Intn(n)] = rat.Of(1)
	for i, l := range p.A {
		if bigDot(l, ray).Sign() > 0 {
			p.A[i], _ = vec.Plus(make([]api.Rat, n), rat.Of(-1), l)
		}
	}
	p.B = bounds(r, p.A, x, bits, func(int) bool { return r.Intn(3) == 0 })
	p.C = slices.Clone(ray)
	return p, api.Answer{Kind: api.Unbounded, X: x, Ray: ray}
}

// eachMade goes through problems of all kinds with an answer that holds, of many sizes.
func eachMade(seed int64, rounds int, do func(p api.LP, a api.Answer)) {
	r := rand.New(rand.NewSource(seed))
	for i := range rounds {
		n, count, bits := r.Intn(6), r.Intn(6), 1+i%70
		do(makeOptimal(r, n, count, bits))
		do(makeInfeasible(r, n, count+1, bits))
		do(makeUnbounded(r, n+1, count, bits))
	}
}

func expectHolds(t *testing.T, what string, p api.LP, a api.Answer, want bool) {
	t.Helper()
	if Holds(p, a) != want {
		t.Errorf("%s: Holds(%v, %v) is not %v", what, p, a, want)
	}
}
