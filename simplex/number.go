package simplex

import (
	"math"
	"math/bits"

	"escarpment/api"
	"escarpment/rat"
)

// number is what the numbers of a tableau are; the zero value is nought.
type number[T any] interface {
	sign() int
	turned() T
	// crossed tells (a d - b c) / by, where a is this one; by is above nought, and divides that. false: it is none of T.
	crossed(d, b, c, by T) (T, bool)
	// crossSign tells the sign of a d - b c.
	crossSign(d, b, c T) int
	// quotient tells a / by; by is above nought.
	quotient(by T) api.Rat
}

// word is a number of one machine word, but not the lowest: so each can be turned, and what two products are apart
// fits two words.
type word int64

// wordOf tells a, which is whole, as a word; false: it is none.
func wordOf(a api.Rat) (word, bool) {
	n := rat.Floor(a)
	if len(n.L) > 2 {
		return 0, false
	}
	var size uint64
	for i, limb := range n.L {
		size |= uint64(limb) << (32 * i)
	}
	return signed(n.Neg, size)
}

// signed tells the word of that size; false: there is none.
func signed(below bool, size uint64) (word, bool) {
	switch {
	case size > math.MaxInt64:
		return 0, false
	case below:
		return -word(size), true
	}
	return word(size), true
}

func (a word) sign() int {
	switch {
	case a < 0:
		return -1
	case a > 0:
		return 1
	}
	return 0
}

func (a word) turned() word { return -a }

func (a word) crossed(d, b, c, by word) (word, bool) {
	high, low := apart(a, d, b, c)
	below := int64(high) < 0
	if below {
		var borrow uint64
		low, borrow = bits.Sub64(0, low, 0)
		high, _ = bits.Sub64(0, high, borrow)
	}
	if high >= uint64(by) {
		return 0, false
	}
	size, _ := bits.Div64(high, low, uint64(by))
	return signed(below, size)
}

func (a word) crossSign(d, b, c word) int {
	high, low := apart(a, d, b, c)
	switch {
	case int64(high) < 0:
		return -1
	case high|low == 0:
		return 0
	}
	return 1
}

func (a word) quotient(by word) api.Rat {
	q, _ := rat.Div(rat.Of(int64(a)), rat.Of(int64(by)))
	return q
}

// apart tells a d - b c in two words, with the sign in the highest bit.
func apart(a, d, b, c word) (high, low uint64) {
	high, low = product(a, d)
	lessHigh, lessLow := product(b, c)
	low, borrow := bits.Sub64(low, lessLow, 0)
	high, _ = bits.Sub64(high, lessHigh, borrow)
	return high, low
}

// product tells a b in two words, with the sign in the highest bit.
func product(a, b word) (high, low uint64) {
	high, low = bits.Mul64(uint64(a), uint64(b))
	// As words without a sign those below nought are 2^64 more than they are.
	if a < 0 {
		high -= uint64(b)
	}
	if b < 0 {
		high -= uint64(a)
	}
	return high, low
}

// large is a whole number of any size.
type large api.Rat

// largeOf tells a; each is one.
func largeOf(a api.Rat) (large, bool) { return large(a), true }

// sign looks at P alone: what rat tells has one form.
func (a large) sign() int {
	switch {
	case a.P.Neg:
		return -1
	case len(a.P.L) > 0:
		return 1
	}
	return 0
}

func (a large) turned() large {
	return large(rat.Sub(api.Rat{}, api.Rat(a)))
}

func (a large) crossed(d, b, c, by large) (large, bool) {
	rest := large(rat.Sub(a.times(d), b.times(c)))
	return large(rest.quotient(by)), true
}

func (a large) crossSign(d, b, c large) int {
	return rat.Cmp(a.times(d), b.times(c))
}

func (a large) quotient(by large) api.Rat {
	q, _ := rat.Div(api.Rat(a), api.Rat(by))
	return q
}

func (a large) times(b large) api.Rat {
	return rat.Mul(api.Rat(a), api.Rat(b))
}
