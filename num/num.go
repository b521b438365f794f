// Package num: whole numbers of any size; see DOC.md, chapter 1.
package num

import "escarpment/api"

// May tells whether a is in the one form that a number has.
func May(a api.Int) bool {
	n := len(a.L)
	if n == 0 {
		return !a.Neg
	}
	return a.L[n-1] != 0
}

// Of tells n as an Int.
func Of(n int64) api.Int {
	size := uint64(n)
	if n < 0 {
		// Turned as a uint64, where the lowest int64 has its size, too.
		size = -size
	}
	return made(n < 0, limbsOf(size))
}

// To tells a as an int64; false, if it is none.
func To(a api.Int) (int64, bool) {
	a = counted(a)
	if len(a.L) > 2 {
		return 0, false
	}
	size := wordOf(a.L)
	if a.Neg {
		return toNegative(size)
	}
	if size >= 1<<63 {
		return 0, false
	}
	return int64(size), true
}

// toNegative tells the number below nought of that size; there is one more of these than above.
func toNegative(size uint64) (int64, bool) {
	if size > 1<<63 {
		return 0, false
	}
	return int64(-size), true
}

// Neg tells a turned.
func Neg(a api.Int) api.Int {
	a = counted(a)
	return made(!a.Neg, copied(a.L))
}

// Add tells the sum of a and b.
func Add(a, b api.Int) api.Int {
	a, b = counted(a), counted(b)
	return addSigned(a.Neg, a.L, b.Neg, b.L)
}

// Sub tells a less b.
func Sub(a, b api.Int) api.Int {
	a, b = counted(a), counted(b)
	return addSigned(a.Neg, a.L, !b.Neg, b.L)
}

// Mul tells the product of a and b.
func Mul(a, b api.Int) api.Int {
	a, b = counted(a), counted(b)
	return made(a.Neg != b.Neg, mulLimbs(a.L, b.L))
}

// Div tells q and r with a = q b + r, r smaller than b, and nought or with a's sign; ErrArg: b is nought.
func Div(a, b api.Int) (q, r api.Int, e api.Errno) {
	a, b = counted(a), counted(b)
	if len(b.L) == 0 {
		return api.Int{}, api.Int{}, api.ErrArg
	}
	quotient, rest := divLimbs(a.L, b.L)
	return made(a.Neg != b.Neg, quotient), made(a.Neg, rest), api.OK
}

// Gcd tells the greatest that divides both, not below nought; of two noughts nought.
func Gcd(a, b api.Int) api.Int {
	return made(false, gcdLimbs(counted(a).L, counted(b).L))
}

// Cmp tells -1, 0, 1: a is below, just, above b.
func Cmp(a, b api.Int) int {
	a, b = counted(a), counted(b)
	switch {
	case a.Neg && b.Neg:
		return cmpLimbs(b.L, a.L)
	case a.Neg:
		return -1
	case b.Neg:
		return 1
	}
	return cmpLimbs(a.L, b.L)
}

// counted tells what a counts as: what may not be is nought. It is for looking at alone, as its limbs are a's.
func counted(a api.Int) api.Int {
	if !May(a) {
		return api.Int{}
	}
	return a
}

// made tells the number of that sign and these limbs in the one form that may be; it keeps the limbs.
func made(neg bool, limbs []uint32) api.Int {
	limbs = trimmed(limbs)
	if len(limbs) == 0 {
		return api.Int{}
	}
	return api.Int{Neg: neg, L: limbs}
}

// addSigned tells the sum of two numbers, each a sign and its limbs without noughts at their end.
func addSigned(aNeg bool, a []uint32, bNeg bool, b []uint32) api.Int {
	if aNeg == bNeg {
		return made(aNeg, addLimbs(a, b))
	}
	if cmpLimbs(a, b) < 0 {
		return made(bNeg, subLimbs(b, a))
	}
	return made(aNeg, subLimbs(a, b))
}
