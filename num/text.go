package num

import (
	"slices"
	"strings"

	"escarpment/api"
)

const (
	maxRead = 5000       // bytes that Read takes
	group   = 9          // digits that go into a limb at once
	base    = 1000000000 // 10 to the power of group
)

// Text tells a's decimal digits, without noughts ahead, `-` ahead of what is below nought.
func Text(a api.Int) string {
	a = counted(a)
	if len(a.L) == 0 {
		return "0"
	}
	text := digitsOf(a.L)
	if a.Neg {
		text = append(text, '-')
	}
	slices.Reverse(text)
	return string(text)
}

// Read tells the number whose Text is just s; ErrLong: s has more than 5000 bytes; else ErrForm.
func Read(s string) (api.Int, api.Errno) {
	if len(s) > maxRead {
		return api.Int{}, api.ErrLong
	}
	digits, neg := strings.CutPrefix(s, "-")
	if !areDigits(digits) || neg && digits == "0" {
		return api.Int{}, api.ErrForm
	}
	return made(neg, limbsOfDigits(digits)), api.OK
}

// digitsOf tells the decimal digits of a size that is not nought, the lowest first.
func digitsOf(limbs []uint32) []byte {
	rest := copied(limbs)
	var digits []byte
	for len(rest) > 0 {
		low := divInto(rest, base)
		rest = trimmed(rest)
		for range group {
			digits = append(digits, byte('0'+low%10))
			low /= 10
		}
	}
	return withoutNoughts(digits)
}

// withoutNoughts cuts the digits 0 off the end, where the highest stand.
func withoutNoughts(digits []byte) []byte {
	n := len(digits)
	for n > 0 && digits[n-1] == '0' {
		n--
	}
	return digits[:n]
}

// areDigits tells whether s is one decimal digit or more, without noughts ahead.
func areDigits(s string) bool {
	if s == "" || s[0] == '0' && len(s) > 1 {
		return false
	}
	for i := range len(s) {
		if s[i] < '0' || s[i] > '9' {
			return false
		}
	}
	return true
}

// limbsOfDigits tells the limbs of decimal digits, a group at a time.
func limbsOfDigits(digits string) []uint32 {
	var limbs []uint32
	for len(digits) > 0 {
		// The first group is the one that may be short, so that base fits all that are behind it.
		n := (len(digits)-1)%group + 1
		limbs = timesBaseAnd(limbs, groupOf(digits[:n]))
		digits = digits[n:]
	}
	return limbs
}

// groupOf tells the number of at most group digits.
func groupOf(digits string) uint32 {
	var n uint32
	for i := range len(digits) {
		n = n*10 + uint32(digits[i]-'0')
	}
	return n
}

// timesBaseAnd multiplies limbs by base and adds n, in place as far as there is room.
func timesBaseAnd(limbs []uint32, n uint32) []uint32 {
	carry := uint64(n)
	for i, x := range limbs {
		t := uint64(x)*base + carry
		limbs[i] = uint32(t)
		carry = t >> 32
	}
	if carry > 0 {
		limbs = append(limbs, uint32(carry))
	}
	return limbs
}
