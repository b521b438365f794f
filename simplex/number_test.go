package simplex

import (
	"math"
	"math/big"
	"math/rand"
	"testing"

	"escarpment/api"
	"escarpment/rat"
)

// edges are words at which something turns: noughts, signs, limbs, the ends.
func edges() []word {
	var l []word
	for _, n := range []int64{0, 1, 2, 3, 7, math.MaxInt32, 1 << 31, math.MaxUint32, 1 << 32, 1<<32 + 1, 3037000499, 3037000500, 1 << 62, math.MaxInt64 - 1, math.MaxInt64} {
		l = append(l, word(n), word(-n))
	}
	return l
}

// someWord tells a word of a random length.
func someWord(r *rand.Rand) word {
	n := word(r.Int63() >> r.Intn(63))
	if r.Intn(2) == 0 {
		return -n
	}
	return n
}

// eachFour goes through fours of edges and of random words.
func eachFour(do func(a, d, b, c word)) {
	r := rand.New(rand.NewSource(64))
	l := edges()
	pick := func() word {
		if r.Intn(2) == 0 {
			return l[r.Intn(len(l))]
		}
		return someWord(r)
	}
	for _, a := range l {
		for _, d := range l {
			do(a, d, 0, 0)
			do(0, 1, a, d)
			do(a, d, d, a)
			do(a, d, -a, d)
			for range 20 {
				do(a, d, pick(), pick())
			}
		}
	}
}

func bigWord(a word) *big.Int { return big.NewInt(int64(a)) }

// largeWord tells a word as a large.
func largeWord(a word) large { return large(rat.Of(int64(a))) }

func bigApart(a, d, b, c word) *big.Int {
	n := new(big.Int).Mul(bigWord(a), bigWord(d))
	return n.Sub(n, new(big.Int).Mul(bigWord(b), bigWord(c)))
}

// isWord: from -(2^63 - 1) to 2^63 - 1.
func isWord(n *big.Int) bool {
	return n.IsInt64() && n.Int64() != math.MinInt64
}

func TestApart(t *testing.T) {
	eachFour(func(a, d, b, c word) {
		high, low := apart(a, d, b, c)
		got := new(big.Int).Lsh(big.NewInt(int64(high)), 64)
		got.Add(got, new(big.Int).SetUint64(low))
		if got.Cmp(bigApart(a, d, b, c)) != 0 {
			t.Error("apart", a, d, b, c, got)
		}
	})
}

func TestCrossSign(t *testing.T) {
	eachFour(func(a, d, b, c word) {
		want := bigApart(a, d, b, c).Sign()
		if a.crossSign(d, b, c) != want || largeWord(a).crossSign(largeWord(d), largeWord(b), largeWord(c)) != want {
			t.Error("crossSign", a, d, b, c, "is not", want)
		}
	})
}

// TestCrossed: by 1, and by a number that divides, where what is told is a word, and where it is none.
func TestCrossed(t *testing.T) {
	r := rand.New(rand.NewSource(65))
	seen := map[bool]int{}
	eachFour(func(a, d, b, c word) {
		by := 1 + word(r.Int63()>>r.Intn(63))/2
		if by > math.MaxInt32 {
			// Else there is nothing left of what it divides.
			by >>= 31
		}
		for _, by := range []word{1, by} {
			a, b := a/by*by, b/by*by
			want := bigApart(a, d, b, c)
			want.Quo(want, bigWord(by))
			got, fits := a.crossed(d, b, c, by)
			seen[fits]++
			if fits != isWord(want) || fits && bigWord(got).Cmp(want) != 0 {
				t.Error("crossed", a, d, b, c, by, "is", got, fits, "want", want)
			}
			long, _ := largeWord(a).crossed(largeWord(d), largeWord(b), largeWord(c), largeWord(by))
			if rat.Text(api.Rat(long)) != want.String() {
				t.Error("crossed, large", a, d, b, c, by, "is", long, "want", want)
			}
		}
	})
	if seen[true] < 1000 || seen[false] < 1000 {
		t.Error("one side is hardly tried", seen)
	}
}

// TestSigned: the ends of words; the lowest int64 is none.
func TestSigned(t *testing.T) {
	for _, c := range []struct {
		below bool
		size  uint64
		want  word
		fits  bool
	}{
		{false, 0, 0, true}, {true, 0, 0, true}, {false, 5, 5, true}, {true, 5, -5, true},
		{false, 1<<63 - 1, math.MaxInt64, true}, {true, 1<<63 - 1, -math.MaxInt64, true},
		{false, 1 << 63, 0, false}, {true, 1 << 63, 0, false}, {false, math.MaxUint64, 0, false}, {true, math.MaxUint64, 0, false},
	} {
		if n, fits := signed(c.below, c.size); n != c.want || fits != c.fits {
			t.Error("signed", c, n, fits)
		}
	}
}

func TestWordOf(t *testing.T) {
	for s, fits := range map[string]bool{
		"0": true, "1": true, "-1": true, "4294967295": true, "4294967296": true, "-4294967297": true, "9223372036854775807": true, "-9223372036854775807": true,
		"9223372036854775808": false, "-9223372036854775808": false, "18446744073709551615": false, "-18446744073709551616": false, "18446744073709551617": false, "79228162514264337593543950336": false,
	} {
		n, ok := wordOf(read(s))
		if ok != fits || ok && rat.Cmp(rat.Of(int64(n)), read(s)) != 0 {
			t.Error("wordOf", s, n, ok)
		}
		if a, ok := largeOf(read(s)); !ok || rat.Text(api.Rat(a)) != s {
			t.Error("largeOf", s, a, ok)
		}
	}
	if n, ok := wordOf(api.Rat{}); n != 0 || !ok {
		t.Error("wordOf the zero value", n, ok)
	}
}

func TestSignAndTurned(t *testing.T) {
	for _, a := range append(edges(), -5, 5) {
		want := bigWord(a).Sign()
		if a.sign() != want || largeWord(a).sign() != want || a.turned() != -a || rat.Cmp(api.Rat(largeWord(a).turned()), rat.Of(-int64(a))) != 0 {
			t.Error("sign, turned of", a)
		}
	}
	var none large
	if none.sign() != 0 || none.turned().sign() != 0 || word(0).turned() != 0 {
		t.Error("sign, turned of nought")
	}
	if a := large(read("-18446744073709551616")); a.sign() != -1 || a.turned().sign() != 1 {
		t.Error("sign, turned of", a)
	}
}

func TestQuotient(t *testing.T) {
	for _, a := range edges() {
		for _, by := range edges() {
			if by <= 0 {
				continue
			}
			want := new(big.Rat).SetFrac(bigWord(a), bigWord(by)).RatString()
			if rat.Text(a.quotient(by)) != want || rat.Text(largeWord(a).quotient(largeWord(by))) != want {
				t.Error("quotient", a, by, "is not", want)
			}
		}
	}
}
