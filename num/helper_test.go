package num

import (
	"math"
	"math/big"
	"math/rand"
	"reflect"
	"strings"
	"testing"

	"escarpment/api"
)

// bigOf tells a number by its definition, the sum of its limbs, reckoned by math/big.
func bigOf(a api.Int) *big.Int {
	n := new(big.Int)
	for i, x := range a.L {
		n.Add(n, new(big.Int).Lsh(big.NewInt(int64(x)), uint(32*i)))
	}
	if a.Neg {
		n.Neg(n)
	}
	return n
}

// ofBig tells the one form of n.
func ofBig(n *big.Int) api.Int {
	a := api.Int{Neg: n.Sign() < 0}
	for rest := new(big.Int).Abs(n); rest.Sign() > 0; rest.Rsh(rest, 32) {
		low := new(big.Int).And(rest, big.NewInt(math.MaxUint32))
		a.L = append(a.L, uint32(low.Uint64()))
	}
	return a
}

// expect holds a told number against the true one, limb by limb.
func expect(t *testing.T, what string, got api.Int, want *big.Int) {
	t.Helper()
	if !May(got) || !alike(got, ofBig(want)) {
		t.Errorf("%s: %v, want %v", what, got, ofBig(want))
	}
}

// alike takes a nil list and an empty one as one.
func alike(a, b api.Int) bool {
	return a.Neg == b.Neg && len(a.L) == len(b.L) && (len(a.L) == 0 || reflect.DeepEqual(a.L, b.L))
}

func isZero(a api.Int) bool {
	return alike(a, api.Int{})
}

// wrong are such as may not be.
func wrong() []api.Int {
	return []api.Int{
		{Neg: true},
		{Neg: true, L: []uint32{}},
		{L: []uint32{0}},
		{Neg: true, L: []uint32{0}},
		{L: []uint32{0, 0}},
		{L: []uint32{5, 0}},
		{Neg: true, L: []uint32{1, 2, 0}},
		{L: []uint32{math.MaxUint32, math.MaxUint32, 0}},
	}
}

// edges are noughts, signs, full limbs, the ends of int64 and their neighbours, and long ones.
func edges() []api.Int {
	texts := []string{
		"0", "1", "2", "3", "7", "10", "48", "999999999", "1000000000",
		"2147483647", "2147483648", "4294967295", "4294967296", "4294967297",
		"9223372036854775807", "9223372036854775808", "9223372036854775809",
		"18446744073709551615", "18446744073709551616", "18446744073709551617",
		"79228162514264337593543950335", "79228162514264337593543950336",
		"1000000000000000000000000000000000000000000",
		"1" + strings.Repeat("0", 300), strings.Repeat("9", 300), strings.Repeat("37", 111),
	}
	var l []api.Int
	for _, s := range texts {
		n, ok := new(big.Int).SetString(s, 10)
		if !ok {
			panic(s)
		}
		l = append(l, ofBig(n), ofBig(new(big.Int).Neg(n)))
	}
	// Divisors and numbers at which a guessed limb of the quotient is too great, by one and by more.
	for _, limbs := range [][]uint32{
		{3, 0, 1 << 31}, {1, 0, 1 << 29}, {0, 0, 1 << 31, 1<<31 - 1}, {1, 0, 1 << 31},
		{0, math.MaxUint32 - 1, 1 << 31}, {math.MaxUint32, 1 << 31}, {math.MaxUint32, math.MaxUint32 - 1, 1 << 31},
		{0, 0, 0, 1}, {math.MaxUint32, math.MaxUint32, math.MaxUint32, math.MaxUint32}, {0, math.MaxUint32},
	} {
		l = append(l, api.Int{L: limbs}, api.Int{Neg: true, L: limbs})
	}
	return l
}

// random tells a number of at most so many limbs, of which many are 0, full, or have one bit.
func random(r *rand.Rand, most int) api.Int {
	n := r.Intn(most + 1)
	if n == 0 {
		return api.Int{}
	}
	a := api.Int{Neg: r.Intn(2) == 0, L: make([]uint32, n)}
	for i := range a.L {
		switch r.Intn(6) {
		case 0:
		case 1:
			a.L[i] = math.MaxUint32
		case 2:
			a.L[i] = 1 << r.Intn(32)
		case 3:
			a.L[i] = math.MaxUint32 - uint32(r.Intn(3))
		default:
			a.L[i] = r.Uint32()
		}
	}
	a.L[n-1] |= 1 << r.Intn(32)
	return a
}

// eachPair goes through pairs of edges, and of random numbers.
func eachPair(do func(a, b api.Int)) {
	l := edges()
	for _, a := range l {
		for _, b := range l {
			do(a, b)
		}
	}
	r := rand.New(rand.NewSource(11))
	for range 20000 {
		do(random(r, 9), random(r, 6))
	}
	for range 40 {
		do(random(r, 150), random(r, 100))
	}
}
