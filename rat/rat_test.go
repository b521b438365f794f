package rat

import (
	"fmt"
	"math"
	"math/big"
	"math/rand"
	"testing"

	"escarpment/api"
	"escarpment/num"
)

// 2.1

func TestMay(t *testing.T) {
	for _, a := range append(noughts(), edges()...) {
		if !May(a) {
			t.Error("2.1: may be:", a)
		}
	}
	for _, a := range wrong() {
		if May(a) {
			t.Error("2.1: may not be:", a)
		}
	}
}

// TestMayOfSmall goes through all small quotients.
func TestMayOfSmall(t *testing.T) {
	for p := int64(-13); p <= 13; p++ {
		for q := int64(-13); q <= 13; q++ {
			least := q > 0 && new(big.Int).GCD(nil, nil, big.NewInt(max(p, -p)), big.NewInt(q)).Int64() == 1
			if May(api.Rat{P: num.Of(p), Q: num.Of(q)}) != (least || p == 0 && q == 0) {
				t.Error("2.1: May", p, q)
			}
		}
	}
}

// TestCountsAsNought: what may not be, and each form of nought, tells what nought tells, on either side.
func TestCountsAsNought(t *testing.T) {
	for _, bad := range append(wrong(), noughts()...) {
		if Text(bad) != "0" || len(Floor(bad).L) != 0 || Floor(bad).Neg {
			t.Error("2.1: Text, Floor", bad)
		}
		for _, a := range []api.Rat{Of(0), Of(1), Of(-7), {P: num.Of(-3), Q: num.Of(2)}, {P: power(3, 50), Q: power(2, 90)}, bad} {
			noughtBeside(t, bad, a)
		}
	}
}

func noughtBeside(t *testing.T, bad, a api.Rat) {
	for i, f := range []func(a, b api.Rat) any{
		func(a, b api.Rat) any { return Add(a, b) },
		func(a, b api.Rat) any { return Sub(a, b) },
		func(a, b api.Rat) any { return Mul(a, b) },
		func(a, b api.Rat) any { q, e := Div(a, b); return []any{q, e} },
		func(a, b api.Rat) any { return Cmp(a, b) },
	} {
		if got, want := fmt.Sprint(f(bad, a)), fmt.Sprint(f(Of(0), a)); got != want {
			t.Error("2.1: call", i, bad, a, got, "want", want)
		}
		if got, want := fmt.Sprint(f(a, bad)), fmt.Sprint(f(a, Of(0))); got != want {
			t.Error("2.1: call", i, a, bad, got, "want", want)
		}
	}
}

// TestNoughtIsToldOverOne: nought as an answer has a denominator of 1, whatever it came from.
func TestNoughtIsToldOverOne(t *testing.T) {
	half := api.Rat{P: num.Of(1), Q: num.Of(2)}
	nought := new(big.Rat)
	for _, a := range append(wrong(), noughts()...) {
		expect(t, "2.1: Add of noughts", Add(a, api.Rat{}), nought)
		expect(t, "2.1: Sub of noughts", Sub(api.Rat{}, a), nought)
		expect(t, "2.1: Mul by nought", Mul(half, a), nought)
		q, e := Div(a, half)
		expect(t, "2.1: Div of nought", q, nought)
		if e != api.OK {
			t.Error("2.1: Div of nought", e)
		}
	}
	expect(t, "2.1: Sub of alike", Sub(half, half), nought)
	expect(t, "2.1: Of", Of(0), nought)
}

func TestOf(t *testing.T) {
	for _, n := range []int64{0, 1, -1, 2, 41, -1 << 32, math.MaxInt64, math.MinInt64} {
		expect(t, "2.1: Of", Of(n), new(big.Rat).SetInt64(n))
	}
}

func TestQuo(t *testing.T) {
	l := wholes()
	r := rand.New(rand.NewSource(22))
	for range 60 {
		l = append(l, intOf(randomInt(r, 150)))
	}
	for _, p := range l {
		for _, q := range l {
			a, e := Quo(p, q)
			if len(q.L) == 0 {
				if e != api.ErrZero || !isZero(a) {
					t.Error("2.1: Quo by nought", p, a, e)
				}
				continue
			}
			expect(t, "2.1: Quo", a, new(big.Rat).SetFrac(bigInt(p), bigInt(q)))
			if e != api.OK {
				t.Error("2.1: Quo", p, q, e)
			}
		}
	}
}

func TestQuoByHand(t *testing.T) {
	for _, c := range []struct {
		p, q int64
		want string
	}{{6, -4, "-3/2"}, {-6, 4, "-3/2"}, {-6, -4, "3/2"}, {6, 4, "3/2"}, {0, -9, "0"}, {0, 9, "0"}, {8, 4, "2"}, {8, -4, "-2"}, {-1, -1, "1"}, {1, -7, "-1/7"}} {
		if a, e := Quo(num.Of(c.p), num.Of(c.q)); Text(a) != c.want || e != api.OK {
			t.Error("2.1: Quo", c, Text(a), e)
		}
	}
}

// TestQuoOfWrong: whole numbers that may not be count as nought (1.1).
func TestQuoOfWrong(t *testing.T) {
	for _, bad := range []api.Int{{Neg: true}, {L: []uint32{0}}, {L: []uint32{7, 0}}, {Neg: true, L: []uint32{7, 0}}} {
		if a, e := Quo(num.Of(6), bad); e != api.ErrZero || !isZero(a) {
			t.Error("2.1: Quo by what may not be", bad, a, e)
		}
		a, e := Quo(bad, num.Of(-6))
		expect(t, "2.1: Quo of what may not be", a, new(big.Rat))
		if e != api.OK {
			t.Error("2.1: Quo of what may not be", bad, e)
		}
	}
}

// 2.2

func TestAddSubMul(t *testing.T) {
	eachPair(func(a, b api.Rat) {
		x, y := bigOf(a), bigOf(b)
		expect(t, "2.2: Add", Add(a, b), new(big.Rat).Add(x, y))
		expect(t, "2.2: Sub", Sub(a, b), new(big.Rat).Sub(x, y))
		expect(t, "2.2: Mul", Mul(a, b), new(big.Rat).Mul(x, y))
	})
}

func TestDiv(t *testing.T) {
	eachPair(func(a, b api.Rat) {
		q, e := Div(a, b)
		if len(b.P.L) == 0 {
			if e != api.ErrZero || !isZero(q) {
				t.Error("2.2: Div by nought", a, q, e)
			}
			return
		}
		expect(t, "2.2: Div", q, new(big.Rat).Quo(bigOf(a), bigOf(b)))
		if e != api.OK {
			t.Error("2.2: Div", a, b, e)
		}
	})
}

func TestDivByNought(t *testing.T) {
	for _, b := range append(noughts(), wrong()...) {
		for _, a := range append(noughts(), Of(1), Of(-3), api.Rat{P: num.Of(-3), Q: num.Of(2)}, api.Rat{P: num.Of(3)}) {
			if q, e := Div(a, b); e != api.ErrZero || !isZero(q) {
				t.Error("2.2: Div by nought", a, b, q, e)
			}
		}
	}
}

func TestCmp(t *testing.T) {
	eachPair(func(a, b api.Rat) {
		if got, want := Cmp(a, b), bigOf(a).Cmp(bigOf(b)); got != want {
			t.Error("2.2: Cmp", a, b, got, "want", want)
		}
	})
}

func TestFloor(t *testing.T) {
	for _, c := range []struct{ p, q, want int64 }{
		{7, 2, 3}, {-7, 2, -4}, {4, 1, 4}, {-4, 1, -4}, {0, 1, 0}, {1, 9, 0}, {-1, 9, -1}, {8, 9, 0}, {-8, 9, -1},
		{-9, 8, -2}, {9, 8, 1}, {math.MinInt64, 3, -3074457345618258603}, {math.MaxInt64, 2, 4611686018427387903},
	} {
		expectInt(t, "2.2: Floor", Floor(api.Rat{P: num.Of(c.p), Q: num.Of(c.q)}), big.NewInt(c.want))
	}
	r := rand.New(rand.NewSource(23))
	for i := range 3000 {
		a := random(r, 8+i%200)
		// math/big's Div goes down where the divisor is above nought.
		expectInt(t, "2.2: Floor", Floor(a), new(big.Int).Div(bigInt(a.P), bigInt(a.Q)))
	}
}

// TestFloorIsBetween: Floor is at most a, and one more is above it.
func TestFloorIsBetween(t *testing.T) {
	for _, a := range edges() {
		low := api.Rat{P: Floor(a), Q: num.Of(1)}
		if Cmp(low, a) > 0 || Cmp(Add(low, Of(1)), a) <= 0 {
			t.Error("2.2: Floor", a, low)
		}
	}
}

// 2.4

func TestFieldLaws(t *testing.T) {
	r := rand.New(rand.NewSource(24))
	same := func(what string, a, b api.Rat) {
		t.Helper()
		if Cmp(a, b) != 0 || fmt.Sprint(a) != fmt.Sprint(b) {
			t.Error("2.4:", what, a, b)
		}
	}
	for i := range 3000 {
		bits := 3 + i%120
		a, b, c := random(r, bits), random(r, bits), random(r, bits)
		same("a + b", Add(a, b), Add(b, a))
		same("a b", Mul(a, b), Mul(b, a))
		same("(a + b) + c", Add(Add(a, b), c), Add(a, Add(b, c)))
		same("(a b) c", Mul(Mul(a, b), c), Mul(a, Mul(b, c)))
		same("a (b + c)", Mul(a, Add(b, c)), Add(Mul(a, b), Mul(a, c)))
		same("a + 0", Add(a, Of(0)), a)
		same("1 a", Mul(Of(1), a), a)
		same("a + (0 - a)", Add(a, Sub(Of(0), a)), Of(0))
		same("(a - b) + b", Add(Sub(a, b), b), a)
		if inverse, e := Div(Of(1), a); e == api.OK {
			same("a (1/a)", Mul(a, inverse), Of(1))
			quotient, _ := Div(b, a)
			same("(b/a) a", Mul(quotient, a), b)
		} else if Cmp(a, Of(0)) != 0 {
			t.Error("2.4: no inverse of", a)
		}
	}
}

func TestCmpIsSignOfDifference(t *testing.T) {
	eachPair(func(a, b api.Rat) {
		difference := Sub(a, b)
		want := 0
		if difference.P.Neg {
			want = -1
		} else if len(difference.P.L) > 0 {
			want = 1
		}
		if Cmp(a, b) != want || Cmp(b, a) != -want || Cmp(difference, Of(0)) != want {
			t.Error("2.4: Cmp", a, b, Cmp(a, b), "want", want)
		}
	})
}
