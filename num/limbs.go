package num

import "cmp"

// A list of limbs is a size: the lowest limb first. What works on sizes takes lists without noughts at their end,
// unless it says otherwise; made cuts such noughts off what is told.

// word is what a limb may be. Adding and taking off see carries by wrap-round alone, so that they fit all of these.
type word interface {
	~uint8 | ~uint16 | ~uint32 | ~uint64
}

// addWords tells the sum of two limbs and a carry, and the carry of it.
func addWords[W word](x, y, carry W) (sum, over W) {
	half := x + y
	sum = half + carry
	if half < x || sum < half {
		over = 1
	}
	return sum, over
}

// subWords tells x less y and a borrow, and the borrow of it.
func subWords[W word](x, y, borrow W) (rest, under W) {
	half := x - y
	rest = half - borrow
	if half > x || rest > half {
		under = 1
	}
	return rest, under
}

// addInto adds b to a, which has no fewer limbs, in place, and tells the carry behind a's last limb.
func addInto[W word](a, b []W) W {
	var carry W
	for i, y := range b {
		a[i], carry = addWords(a[i], y, carry)
	}
	for i := len(b); i < len(a) && carry > 0; i++ {
		a[i], carry = addWords(a[i], 0, carry)
	}
	return carry
}

// subFrom takes b off a, which has no fewer limbs, in place, and tells the borrow behind a's last limb.
func subFrom[W word](a, b []W) W {
	var borrow W
	for i, y := range b {
		a[i], borrow = subWords(a[i], y, borrow)
	}
	for i := len(b); i < len(a) && borrow > 0; i++ {
		a[i], borrow = subWords(a[i], 0, borrow)
	}
	return borrow
}

// addLimbs tells a + b.
func addLimbs[W word](a, b []W) []W {
	if len(a) < len(b) {
		a, b = b, a
	}
	sum := make([]W, len(a)+1)
	copy(sum, a)
	addInto(sum, b)
	return sum
}

// subLimbs tells a - b, where b is at most a.
func subLimbs[W word](a, b []W) []W {
	rest := copied(a)
	subFrom(rest, b)
	return rest
}

// copied tells the same limbs in new memory.
func copied[W word](a []W) []W {
	c := make([]W, len(a))
	copy(c, a)
	return c
}

// trimmed cuts noughts off a's end.
func trimmed[W word](a []W) []W {
	n := len(a)
	for n > 0 && a[n-1] == 0 {
		n--
	}
	return a[:n]
}

// cmpLimbs tells -1, 0, 1: a is below, just, above b.
func cmpLimbs(a, b []uint32) int {
	if len(a) != len(b) {
		return cmp.Compare(len(a), len(b))
	}
	for i := len(a) - 1; i >= 0; i-- {
		if a[i] != b[i] {
			return cmp.Compare(a[i], b[i])
		}
	}
	return 0
}

// mulLimbs tells a b.
func mulLimbs(a, b []uint32) []uint32 {
	product := make([]uint32, len(a)+len(b))
	for i, x := range a {
		product[i+len(b)] = addTimes(product[i:i+len(b)], b, x)
	}
	return product
}

// addTimes adds x times b to a, which has as many limbs, in place, and tells the carry behind a's last limb.
func addTimes(a, b []uint32, x uint32) uint32 {
	var carry uint64
	for i, y := range b {
		// Full limbs all of them come to 2^64 - 1, no more.
		t := uint64(x)*uint64(y) + uint64(a[i]) + carry
		a[i] = uint32(t)
		carry = t >> 32
	}
	return uint32(carry)
}

// limbsOf tells the limbs of a word.
func limbsOf(size uint64) []uint32 {
	return []uint32{uint32(size), uint32(size >> 32)}
}

// wordOf tells at most two limbs as a word.
func wordOf(a []uint32) uint64 {
	var size uint64
	for i, x := range a {
		size |= uint64(x) << (32 * i)
	}
	return size
}
