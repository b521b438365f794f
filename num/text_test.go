package num

import (
	"math/big"
	"math/rand"
	"strings"
	"testing"

	"escarpment/api"
)

// 1.3

func TestText(t *testing.T) {
	for _, a := range edges() {
		if got, want := Text(a), bigOf(a).String(); got != want {
			t.Error("1.3: Text", a, got, "want", want)
		}
	}
	r := rand.New(rand.NewSource(13))
	for range 3000 {
		a := random(r, 40)
		if got, want := Text(a), bigOf(a).String(); got != want {
			t.Error("1.3: Text", a, got, "want", want)
		}
	}
	if got := Text(api.Int{L: []uint32{0, 0, 1}}); got != "18446744073709551616" {
		t.Error("1.3: Text of 2^64", got)
	}
}

// reads holds Read of s, which is some number's Text, against math/big's.
func reads(t *testing.T, s string) {
	t.Helper()
	a, e := Read(s)
	want, _ := new(big.Int).SetString(s, 10)
	if e != api.OK || Text(a) != s {
		t.Error("1.3: Read", s, e)
	}
	expect(t, "1.3: Read "+s, a, want)
}

func TestReadOfText(t *testing.T) {
	for _, a := range edges() {
		reads(t, Text(a))
	}
	for n := 1; n <= 40; n++ {
		reads(t, strings.Repeat("9", n))
		reads(t, "-1"+strings.Repeat("0", n))
		reads(t, strings.Repeat("1234567890", 4)[:n])
	}
}

func TestReadOfLimit(t *testing.T) {
	reads(t, strings.Repeat("7", 5000))
	reads(t, "1"+strings.Repeat("0", 4999))
	reads(t, "-"+strings.Repeat("9", 4999))
	for _, s := range []string{strings.Repeat("7", 5001), "-" + strings.Repeat("9", 5000), strings.Repeat("0", 5001), strings.Repeat("x", 5001), strings.Repeat(" ", 20000)} {
		if a, e := Read(s); e != api.ErrLong || !isZero(a) {
			t.Error("1.3: Read of", len(s), "bytes:", e, a)
		}
	}
	for _, s := range []string{strings.Repeat("0", 5000), strings.Repeat("x", 5000), strings.Repeat("7", 4999) + "-"} {
		if a, e := Read(s); e != api.ErrForm || !isZero(a) {
			t.Error("1.3: Read of", len(s), "bytes that are no number's:", e, a)
		}
	}
	long := strings.Repeat("8", 4999)
	a, _ := Read(long)
	if got, want := Text(Mul(a, a)), new(big.Int).Mul(bigOf(a), bigOf(a)).String(); got != want {
		t.Error("1.3: Text has no limit:", len(got), len(want))
	}
}

func TestReadOfNoNumber(t *testing.T) {
	for _, s := range []string{
		"", "-", "--", "-0", "+0", "+1", "00", "01", "-00", "-01", "--1", "-+1", "1-", "1-1", " 1", "1 ", "1\n", "\n1", "1 1",
		"1_000", "1,000", "0x1", "0b1", "0o7", "1a", "a1", "1e3", "1.0", "1/2", "inf", "nought", "\x00", "1\x00", "\xff", "/", ":",
		"\u0661", "\uff11", "\u22121", "000000000000000000001", "999999999a", "-999999999 ",
	} {
		if a, e := Read(s); e != api.ErrForm || !isZero(a) {
			t.Errorf("1.3: Read of %q: %v, %v", s, a, e)
		}
	}
}

// TestReadOfShort goes through all texts of one and two bytes: what is read is told as just the text.
func TestReadOfShort(t *testing.T) {
	numbers := map[string]int{}
	for n := -9; n <= 99; n++ {
		numbers[Text(Of(int64(n)))] = n
	}
	look := func(s string) {
		a, e := Read(s)
		n, is := numbers[s]
		if is && (e != api.OK || !alike(a, Of(int64(n)))) || !is && (e != api.ErrForm || !isZero(a)) {
			t.Errorf("1.3: Read of %q: %v, %v", s, a, e)
		}
	}
	for i := range 256 {
		look(string([]byte{byte(i)}))
		for k := range 256 {
			look(string([]byte{byte(i), byte(k)}))
		}
	}
}
