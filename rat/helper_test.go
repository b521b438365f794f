package rat

import (
	"math"
	"math/big"
	"math/rand"
	"strings"
	"testing"

	"escarpment/api"
	"escarpment/num"
)

// bigOf tells a, which has a denominator, as math/big does.
func bigOf(a api.Rat) *big.Rat {
	return new(big.Rat).SetFrac(bigInt(a.P), bigInt(a.Q))
}

func bigInt(a api.Int) *big.Int {
	n, _ := new(big.Int).SetString(num.Text(a), 10)
	return n
}

// expect holds a told quotient against the true one, part by part, so that another form of it is a fault too.
func expect(t *testing.T, what string, got api.Rat, want *big.Rat) {
	t.Helper()
	expectInt(t, what+", P", got.P, want.Num())
	expectInt(t, what+", Q", got.Q, want.Denom())
	if !May(got) {
		t.Errorf("%s: may not be: %v", what, got)
	}
}

func expectInt(t *testing.T, what string, got api.Int, want *big.Int) {
	t.Helper()
	if !num.May(got) || num.Text(got) != want.String() {
		t.Errorf("%s: %v, want %v", what, got, want)
	}
}

// isZero: the zero value itself, not a nought with a denominator.
func isZero(a api.Rat) bool {
	return !a.P.Neg && !a.Q.Neg && len(a.P.L) == 0 && len(a.Q.L) == 0
}

// noughts are all that may be and are nought.
func noughts() []api.Rat {
	return []api.Rat{
		{},
		{P: api.Int{L: []uint32{}}, Q: api.Int{L: []uint32{}}},
		{Q: api.Int{L: []uint32{}}},
		{Q: num.Of(1)},
		{P: api.Int{L: []uint32{}}, Q: num.Of(1)},
	}
}

// wrong are such as may not be: by a part, by the denominator, by a factor in common.
func wrong() []api.Rat {
	n := num.Of
	return []api.Rat{
		{P: api.Int{Neg: true}},
		{Q: api.Int{Neg: true}},
		{P: api.Int{Neg: true}, Q: api.Int{Neg: true}},
		{P: api.Int{Neg: true}, Q: n(1)},
		{P: api.Int{L: []uint32{0}}},
		{Q: api.Int{L: []uint32{0}}},
		{P: api.Int{L: []uint32{0}}, Q: n(1)},
		{P: api.Int{L: []uint32{5, 0}}, Q: n(1)},
		{P: n(5), Q: api.Int{L: []uint32{1, 0}}},
		{P: n(5), Q: api.Int{Neg: true}},
		{P: n(5)},
		{P: n(-5)},
		{P: n(1)},
		{Q: n(-1)},
		{Q: n(2)},
		{Q: n(-2)},
		{P: n(1), Q: n(-1)},
		{P: n(3), Q: n(-2)},
		{P: n(-3), Q: n(-2)},
		{P: n(4), Q: n(6)},
		{P: n(-4), Q: n(6)},
		{P: n(2), Q: n(2)},
		{P: n(6), Q: n(3)},
		{P: power(10, 40), Q: power(10, 39)},
		{P: num.Mul(power(3, 50), n(7)), Q: num.Mul(power(2, 90), n(7))},
	}
}

func power(base int64, times int) api.Int {
	n := num.Of(1)
	for range times {
		n = num.Mul(n, num.Of(base))
	}
	return n
}

// wholes are whole numbers of both signs and many sizes.
func wholes() []api.Int {
	var l []api.Int
	for _, n := range []int64{0, 1, 2, 3, 6, 7, 12, 1 << 31, math.MaxUint32, 1 << 32, math.MaxInt64} {
		l = append(l, num.Of(n), num.Of(-n))
	}
	return append(l, num.Of(math.MinInt64), power(10, 40), power(-3, 51), power(2, 96), num.Neg(num.Sub(power(2, 96), num.Of(1))))
}

// edges are quotients in their least form, nought and whole ones among them.
func edges() []api.Rat {
	l := []api.Rat{Of(0)}
	for _, p := range wholes() {
		for _, q := range wholes() {
			if num.Cmp(q, api.Int{}) > 0 && num.Cmp(num.Gcd(p, q), num.Of(1)) == 0 {
				l = append(l, api.Rat{P: p, Q: q})
			}
		}
	}
	return l
}

// random tells a quotient in its least form, by math/big's hand.
func random(r *rand.Rand, bits int) api.Rat {
	p, q := randomInt(r, bits), randomInt(r, bits)
	if q.Sign() == 0 {
		q.SetInt64(1)
	}
	a := new(big.Rat).SetFrac(p, q)
	return api.Rat{P: intOf(a.Num()), Q: intOf(a.Denom())}
}

func randomInt(r *rand.Rand, bits int) *big.Int {
	n := new(big.Int).Rand(r, new(big.Int).Lsh(big.NewInt(1), uint(r.Intn(bits))))
	if r.Intn(2) == 0 {
		n.Neg(n)
	}
	return n
}

func intOf(n *big.Int) api.Int {
	a, e := num.Read(n.String())
	if e != api.OK {
		panic(n.String())
	}
	return a
}

// eachPair goes through pairs of edges, and of random quotients.
func eachPair(do func(a, b api.Rat)) {
	l := edges()
	for _, a := range l {
		for _, b := range l {
			do(a, b)
		}
	}
	r := rand.New(rand.NewSource(21))
	for range 4000 {
		do(random(r, 8), random(r, 8))
		do(random(r, 200), random(r, 120))
	}
}

func sevens(n int) string {
	return strings.Repeat("7", n)
}
