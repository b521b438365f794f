package num

import "math/bits"

// divLimbs tells quotient and rest of a by b, which is not nought, each in memory of its own.
func divLimbs(a, b []uint32) (quotient, rest []uint32) {
	if len(a) < len(b) {
		return nil, copied(a)
	}
	if len(b) == 1 {
		quotient = copied(a)
		return quotient, []uint32{divInto(quotient, b[0])}
	}
	return divLong(a, b)
}

// divInto divides a by d, which is not nought, in place, limb by limb from the highest, and tells the rest.
func divInto(a []uint32, d uint32) uint32 {
	var rest uint64
	for i := len(a) - 1; i >= 0; i-- {
		t := rest<<32 | uint64(a[i])
		a[i] = uint32(t / uint64(d))
		rest = t % uint64(d)
	}
	return uint32(rest)
}

// divLong divides by two limbs or more, a having no fewer, limb by limb as it is done by hand.
func divLong(a, b []uint32) (quotient, rest []uint32) {
	n := len(b)
	// With the divisor's highest bit set a guess is at most one too great.
	shift := bits.LeadingZeros32(b[n-1])
	u := shiftedUp(a, shift)
	v := shiftedUp(b, shift)[:n]
	quotient = make([]uint32, len(a)-n+1)
	for i := len(quotient) - 1; i >= 0; i-- {
		part := u[i : i+n+1]
		q := guess(part, v)
		if subTimes(part, v, q) {
			addInto(part, v)
			q--
		}
		quotient[i] = q
	}
	return quotient, shiftedDown(u[:n], shift)
}

// guess tells, by u's three highest limbs and v's two, the limb that u by v is, or one more. u has one limb more than
// v, and is below v times 2^32; v's highest bit is set.
func guess(u, v []uint32) uint32 {
	n := len(v)
	high, next := uint64(v[n-1]), uint64(v[n-2])
	top := uint64(u[n])<<32 | uint64(u[n-1])
	q, rest := top/high, top%high
	for q > 1<<32-1 || q*next > rest<<32|uint64(u[n-2]) {
		q--
		rest += high
		if rest > 1<<32-1 {
			break
		}
	}
	return uint32(q)
}

// subTimes takes x times v off u, which has one limb more, in place; true: it was too much, u has wrapped round.
func subTimes(u, v []uint32, x uint32) bool {
	var carry uint64
	for i, y := range v {
		t := uint64(x)*uint64(y) + carry
		low := uint32(t)
		carry = t >> 32
		if u[i] < low {
			// Stays a limb: where t's upper half is full, its lower one is nought.
			carry++
		}
		u[i] -= low
	}
	n := len(v)
	over := uint64(u[n]) < carry
	u[n] -= uint32(carry)
	return over
}

// shiftedUp tells a times 2^shift (shift below 32), with one limb more than a.
func shiftedUp(a []uint32, shift int) []uint32 {
	up := make([]uint32, len(a)+1)
	var carry uint32
	for i, x := range a {
		t := uint64(x) << shift
		up[i] = uint32(t) | carry
		carry = uint32(t >> 32)
	}
	up[len(a)] = carry
	return up
}

// shiftedDown tells a by 2^shift (shift below 32), without what falls out.
func shiftedDown(a []uint32, shift int) []uint32 {
	down := make([]uint32, len(a))
	var carry uint32
	for i := len(a) - 1; i >= 0; i-- {
		t := uint64(a[i]) << 32 >> shift
		down[i] = uint32(t>>32) | carry
		carry = uint32(t)
	}
	return down
}

// gcdLimbs tells the greatest that divides both, by rests; of two noughts nought.
func gcdLimbs(a, b []uint32) []uint32 {
	for len(b) > 0 {
		if len(a) <= 2 && len(b) <= 2 {
			return limbsOf(gcdWords(wordOf(a), wordOf(b)))
		}
		_, rest := divLimbs(a, b)
		a, b = b, trimmed(rest)
	}
	return copied(a)
}

// gcdWords is gcdLimbs of sizes that fit a word.
func gcdWords(a, b uint64) uint64 {
	for b > 0 {
		a, b = b, a%b
	}
	return a
}
