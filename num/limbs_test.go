package num

import (
	"math/bits"
	"math/rand"
	"slices"
	"testing"
)

// The generic addition is gone through whole where limbs are bytes.

func TestWordsOfBytes(t *testing.T) {
	for x := range 256 {
		for y := range 256 {
			for carry := range 2 {
				sum, over := addWords(uint8(x), uint8(y), uint8(carry))
				if int(sum)+256*int(over) != x+y+carry {
					t.Fatal("addWords", x, y, carry, sum, over)
				}
				rest, under := subWords(uint8(x), uint8(y), uint8(carry))
				if int(rest)-256*int(under) != x-y-carry {
					t.Fatal("subWords", x, y, carry, rest, under)
				}
			}
		}
	}
}

func TestWordsOf64Bits(t *testing.T) {
	l := []uint64{0, 1, 2, 1<<63 - 1, 1 << 63, 1<<64 - 2, 1<<64 - 1}
	for _, x := range l {
		for _, y := range l {
			for _, carry := range []uint64{0, 1} {
				sum, over := addWords(x, y, carry)
				wantSum, wantOver := bits.Add64(x, y, carry)
				rest, under := subWords(x, y, carry)
				wantRest, wantUnder := bits.Sub64(x, y, carry)
				if sum != wantSum || over != wantOver || rest != wantRest || under != wantUnder {
					t.Error("words", x, y, carry)
				}
			}
		}
	}
}

// bytesOf tells n in as many bytes as it takes, and valueOf gives it back.
func bytesOf(n int) []uint8 {
	var l []uint8
	for ; n > 0; n >>= 8 {
		l = append(l, uint8(n))
	}
	return l
}

func valueOf(l []uint8) int {
	n := 0
	for i, x := range l {
		n |= int(x) << (8 * i)
	}
	return n
}

func TestLimbsOfBytes(t *testing.T) {
	r := rand.New(rand.NewSource(15))
	l := []int{0, 1, 255, 256, 257, 65535, 65536, 1<<24 - 1, 1 << 24}
	for range 300 {
		l = append(l, r.Intn(1<<r.Intn(32)))
	}
	for _, a := range l {
		for _, b := range l {
			if got := valueOf(addLimbs(bytesOf(a), bytesOf(b))); got != a+b {
				t.Fatal("addLimbs", a, b, got)
			}
			if a < b {
				continue
			}
			if got := valueOf(subLimbs(bytesOf(a), bytesOf(b))); got != a-b {
				t.Fatal("subLimbs", a, b, got)
			}
		}
	}
}

func TestAddIntoTellsCarry(t *testing.T) {
	a := []uint16{65535, 65535}
	if carry := addInto(a, []uint16{1}); carry != 1 || !slices.Equal(a, []uint16{0, 0}) {
		t.Error("addInto", carry, a)
	}
	if borrow := subFrom(a, []uint16{1}); borrow != 1 || !slices.Equal(a, []uint16{65535, 65535}) {
		t.Error("subFrom", borrow, a)
	}
}
