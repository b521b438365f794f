package num

import (
	"fmt"
	"math"
	"math/big"
	"math/rand"
	"testing"

	"escarpment/api"
)

// 1.1

func TestMay(t *testing.T) {
	for _, a := range wrong() {
		if May(a) {
			t.Error("1.1: may not be:", a)
		}
	}
	for _, a := range append(edges(), api.Int{L: []uint32{}}, api.Int{L: []uint32{0, 1}}, api.Int{Neg: true, L: []uint32{0, 0, 9}}) {
		if !May(a) {
			t.Error("1.1: may be:", a)
		}
	}
}

func TestLimbsAddUp(t *testing.T) {
	a := api.Int{Neg: true, L: []uint32{7, 5, 3}}
	want := "-55340232242603491335" // 3 2^64 + 5 2^32 + 7
	if Text(a) != want {
		t.Error("1.1:", Text(a), "want", want)
	}
}

func TestWrongCountsAsNought(t *testing.T) {
	for _, bad := range wrong() {
		if n, ok := To(bad); n != 0 || !ok {
			t.Error("1.1: To", bad, n, ok)
		}
		if Text(bad) != "0" || !isZero(Neg(bad)) {
			t.Error("1.1: Text, Neg", bad)
		}
		for _, a := range append(edges(), wrong()...) {
			wrongBeside(t, bad, a)
		}
	}
}

// wrongBeside holds what is told of bad and a against what is told of nought and a, on either side.
func wrongBeside(t *testing.T, bad, a api.Int) {
	nought := api.Int{}
	for i, f := range []func(a, b api.Int) any{
		func(a, b api.Int) any { return Add(a, b) },
		func(a, b api.Int) any { return Sub(a, b) },
		func(a, b api.Int) any { return Mul(a, b) },
		func(a, b api.Int) any { return Gcd(a, b) },
		func(a, b api.Int) any { return Cmp(a, b) },
		func(a, b api.Int) any { q, r, e := Div(a, b); return []any{q, r, e} },
	} {
		if got, want := fmt.Sprint(f(bad, a)), fmt.Sprint(f(nought, a)); got != want {
			t.Error("1.1: call", i, bad, a, got, "want", want)
		}
		if got, want := fmt.Sprint(f(a, bad)), fmt.Sprint(f(a, nought)); got != want {
			t.Error("1.1: call", i, a, bad, got, "want", want)
		}
	}
}

func TestOfAndTo(t *testing.T) {
	for _, n := range []int64{0, 1, -1, 7, -7, math.MaxInt32, math.MinInt32, math.MaxUint32, -math.MaxUint32, 1 << 32, -1 << 32, 1<<32 + 1, math.MaxInt64, math.MaxInt64 - 1, math.MinInt64, math.MinInt64 + 1} {
		a := Of(n)
		expect(t, "1.1: Of", a, big.NewInt(n))
		if m, ok := To(a); m != n || !ok {
			t.Error("1.1: To", n, m, ok)
		}
	}
	for _, a := range edges() {
		n, ok := To(a)
		want := bigOf(a)
		if ok != want.IsInt64() || ok && n != want.Int64() || !ok && n != 0 {
			t.Error("1.1: To", a, n, ok)
		}
	}
	if _, ok := To(api.Int{L: []uint32{0, 0, 1}}); ok {
		t.Error("1.1: To 2^64")
	}
}

// 1.2

func TestNeg(t *testing.T) {
	for _, a := range edges() {
		expect(t, "1.2: Neg", Neg(a), new(big.Int).Neg(bigOf(a)))
	}
}

func TestAddSubMul(t *testing.T) {
	eachPair(func(a, b api.Int) {
		x, y := bigOf(a), bigOf(b)
		expect(t, "1.2: Add", Add(a, b), new(big.Int).Add(x, y))
		expect(t, "1.2: Sub", Sub(a, b), new(big.Int).Sub(x, y))
		expect(t, "1.2: Mul", Mul(a, b), new(big.Int).Mul(x, y))
	})
}

func TestDiv(t *testing.T) {
	eachPair(func(a, b api.Int) {
		if len(b.L) == 0 {
			return
		}
		q, r, e := Div(a, b)
		if e != api.OK {
			t.Error("1.2: Div", a, b, e)
		}
		quo, rem := new(big.Int).QuoRem(bigOf(a), bigOf(b), new(big.Int))
		expect(t, "1.2: quotient", q, quo)
		expect(t, "1.2: rest", r, rem)
	})
}

func TestDivSigns(t *testing.T) {
	for _, c := range []struct{ a, b, q, r int64 }{
		{7, 2, 3, 1}, {-7, 2, -3, -1}, {7, -2, -3, 1}, {-7, -2, 3, -1},
		{6, 3, 2, 0}, {-6, 3, -2, 0}, {6, -3, -2, 0}, {-6, -3, 2, 0},
		{1, 2, 0, 1}, {-1, 2, 0, -1}, {1, -2, 0, 1}, {0, -2, 0, 0},
		{math.MinInt64, math.MaxInt64, -1, -1},
	} {
		q, r, e := Div(Of(c.a), Of(c.b))
		if !alike(q, Of(c.q)) || !alike(r, Of(c.r)) || e != api.OK {
			t.Error("1.2: Div", c, q, r, e)
		}
	}
	q, _, _ := Div(Of(math.MinInt64), Of(-1))
	if Text(q) != "9223372036854775808" {
		t.Error("1.2: Div of the lowest int64 by -1:", Text(q))
	}
}

func TestDivByNought(t *testing.T) {
	for _, b := range append(wrong(), api.Int{}, api.Int{L: []uint32{}}) {
		for _, a := range append(edges(), wrong()...) {
			q, r, e := Div(a, b)
			if e != api.ErrArg || !isZero(q) || !isZero(r) {
				t.Error("1.2: Div by nought", a, b, q, r, e)
			}
		}
	}
}

func TestGcd(t *testing.T) {
	eachPair(func(a, b api.Int) {
		x, y := bigOf(a), bigOf(b)
		expect(t, "1.2: Gcd", Gcd(a, b), new(big.Int).GCD(nil, nil, x.Abs(x), y.Abs(y)))
	})
	for _, c := range []struct{ a, b, g int64 }{{0, 0, 0}, {0, -5, 5}, {-5, 0, 5}, {-12, 18, 6}, {-12, -18, 6}, {1, math.MinInt64, 1}} {
		if g := Gcd(Of(c.a), Of(c.b)); !alike(g, Of(c.g)) {
			t.Error("1.2: Gcd", c, g)
		}
	}
}

func TestGcdOfLongMultiples(t *testing.T) {
	r := rand.New(rand.NewSource(12))
	for range 300 {
		a, b, c := random(r, 8), random(r, 8), random(r, 8)
		x, y := Mul(a, c), Mul(b, c)
		want := new(big.Int).GCD(nil, nil, new(big.Int).Abs(bigOf(x)), new(big.Int).Abs(bigOf(y)))
		expect(t, "1.2: Gcd of multiples", Gcd(x, y), want)
	}
}

func TestCmp(t *testing.T) {
	eachPair(func(a, b api.Int) {
		if got, want := Cmp(a, b), bigOf(a).Cmp(bigOf(b)); got != want {
			t.Error("1.2: Cmp", a, b, got, "want", want)
		}
	})
}

// 1.4

func TestLaws(t *testing.T) {
	r := rand.New(rand.NewSource(14))
	same := func(what string, a, b api.Int) {
		t.Helper()
		if Cmp(a, b) != 0 || !alike(a, b) {
			t.Error("1.4:", what, a, b)
		}
	}
	for range 5000 {
		a, b, c := random(r, 8), random(r, 8), random(r, 8)
		same("a + b", Add(a, b), Add(b, a))
		same("a b", Mul(a, b), Mul(b, a))
		same("(a + b) + c", Add(Add(a, b), c), Add(a, Add(b, c)))
		same("(a b) c", Mul(Mul(a, b), c), Mul(a, Mul(b, c)))
		same("a (b + c)", Mul(a, Add(b, c)), Add(Mul(a, b), Mul(a, c)))
		same("a - b", Sub(a, b), Add(a, Neg(b)))
	}
}

func TestDivGivesBack(t *testing.T) {
	eachPair(func(a, b api.Int) {
		q, r, e := Div(a, b)
		if e != api.OK {
			return
		}
		if !alike(Add(Mul(q, b), r), a) {
			t.Error("1.4: Div does not give back", a, b, q, r)
		}
		if cmpLimbs(r.L, b.L) >= 0 || len(r.L) > 0 && r.Neg != a.Neg {
			t.Error("1.4: rest", a, b, r)
		}
	})
}

func TestGcdDividesBoth(t *testing.T) {
	eachPair(func(a, b api.Int) {
		g := Gcd(a, b)
		if g.Neg {
			t.Error("1.4: Gcd below nought", a, b)
		}
		if len(g.L) == 0 {
			return
		}
		_, x, _ := Div(a, g)
		_, y, _ := Div(b, g)
		if !isZero(x) || !isZero(y) {
			t.Error("1.4: Gcd does not divide", a, b, g)
		}
	})
}
