package rat

import (
	"math/big"
	"math/rand"
	"strings"
	"testing"

	"escarpment/api"
	"escarpment/num"
)

// 2.3

func TestText(t *testing.T) {
	for _, a := range edges() {
		want := num.Text(a.P)
		if num.Cmp(a.Q, num.Of(1)) != 0 {
			want += "/" + num.Text(a.Q)
		}
		if got := Text(a); got != want || got != bigOf(a).RatString() {
			t.Error("2.3: Text", a, got, "want", want)
		}
	}
	for _, c := range []struct {
		a    api.Rat
		want string
	}{{Of(0), "0"}, {api.Rat{}, "0"}, {Of(-5), "-5"}, {api.Rat{P: num.Of(-3), Q: num.Of(2)}, "-3/2"}, {api.Rat{P: num.Of(1), Q: power(10, 21)}, "1/1000000000000000000000"}} {
		if got := Text(c.a); got != c.want {
			t.Error("2.3: Text", c.a, got, "want", c.want)
		}
	}
}

// TestTextHasNoLimit: it tells what Read takes no more.
func TestTextHasNoLimit(t *testing.T) {
	p, q := power(10, 6000), num.Add(power(10, 6000), num.Of(1))
	want := "1" + strings.Repeat("0", 6000) + "/1" + strings.Repeat("0", 5999) + "1"
	if got := Text(api.Rat{P: p, Q: q}); got != want {
		t.Error("2.3: Text of", len(want), "bytes:", len(got))
	}
}

// reads holds Read of s, which is some quotient's Text, against math/big's.
func reads(t *testing.T, s string) {
	t.Helper()
	a, e := Read(s)
	if e != api.OK {
		t.Errorf("2.3: Read of %.40q: %v", s, e)
		return
	}
	want, ok := new(big.Rat).SetString(s)
	if !ok || want.RatString() != s {
		t.Fatalf("no quotient's text: %.40q", s)
	}
	expect(t, "2.3: Read", a, want)
	if Text(a) != s {
		t.Errorf("2.3: Read of %.40q, told again: %.40q", s, Text(a))
	}
}

func TestReadOfText(t *testing.T) {
	for _, a := range edges() {
		reads(t, Text(a))
	}
	r := rand.New(rand.NewSource(25))
	for range 1000 {
		reads(t, bigOf(random(r, 400)).RatString())
	}
}

// TestReadOfEachLength: noughts and nines behind the first digit, so that pieces of the text end wherever they may.
func TestReadOfEachLength(t *testing.T) {
	for n := range 60 {
		reads(t, "1"+strings.Repeat("0", n))
		reads(t, "-9"+strings.Repeat("9", n))
		reads(t, "1/1"+strings.Repeat("0", n)+"3")
		reads(t, "-1"+strings.Repeat("0", n)+"/3")
		reads(t, "7"+strings.Repeat("0", n)+"5")
	}
}

func TestReadOfLongParts(t *testing.T) {
	for _, s := range []string{
		sevens(5000), sevens(5001), sevens(6000), "-" + sevens(5000), "-" + sevens(9999), sevens(10000),
		sevens(10001), "-" + sevens(10000), "1" + strings.Repeat("0", 10000), "-1" + strings.Repeat("0", 9999),
		sevens(9999) + "/2", "-" + sevens(9998) + "/2", "1/" + sevens(9999), "-1/" + sevens(9998),
		sevens(5000) + "/1" + strings.Repeat("0", 4999), "1" + strings.Repeat("0", 4999) + "/" + sevens(5000),
	} {
		reads(t, s)
	}
}

// fails holds Read of s against an error, with the zero value beside it.
func fails(t *testing.T, s string, want api.Errno) {
	t.Helper()
	if a, e := Read(s); e != want || !isZero(a) {
		t.Errorf("2.3: Read of %.40q (%d bytes): %v, want %v", s, len(s), e, want)
	}
}

func TestReadOfTooLong(t *testing.T) {
	for _, s := range []string{
		sevens(10002), "-" + sevens(10001), sevens(5000) + "/" + sevens(5001), "1/" + sevens(10000),
		strings.Repeat("0", 10002), strings.Repeat("x", 10002), strings.Repeat("/", 10002), strings.Repeat(" ", 30000),
		sevens(10000) + "/0", "1/0" + strings.Repeat("0", 10000),
	} {
		fails(t, s, api.ErrLong)
	}
}

func TestReadOfLongestThatAreNone(t *testing.T) {
	for _, s := range []string{
		strings.Repeat("0", 10001), strings.Repeat("x", 10001), strings.Repeat("/", 10001), sevens(10000) + "-",
		sevens(5000) + "/" + sevens(5000), sevens(9999) + "/7", sevens(10000) + "/", "0" + sevens(10000),
		sevens(9000) + " " + sevens(1000), sevens(9998) + "/00", "x" + sevens(9998) + "/0",
	} {
		fails(t, s, api.ErrForm)
	}
	fails(t, sevens(9999)+"/0", api.ErrZero)
	fails(t, "-"+sevens(9998)+"/0", api.ErrZero)
}

func TestReadOfNoughtBelow(t *testing.T) {
	for _, s := range []string{"0/0", "1/0", "2/0", "-1/0", "-5/0", "10/0", "18446744073709551616/0", "-" + sevens(6000) + "/0"} {
		fails(t, s, api.ErrZero)
	}
	for _, s := range []string{"/0", "a/0", "-/0", "-0/0", "00/0", "01/0", "+1/0", "--1/0", " 1/0", "1 /0", "1/00", "1/-0", "1/+0", "1/0 ", "1/ 0", "1/0/0", "1//0", "1/2/0", "/0/0", "4/2/0", "1/0x"} {
		fails(t, s, api.ErrForm)
	}
}

func TestReadOfNone(t *testing.T) {
	for _, s := range []string{
		"", "/", "//", "1/", "/2", "-", "-/2", "-/", "--", "1/2/3", "1//2", "/1/2", "1/2/",
		"4/2", "2/4", "-2/4", "3/1", "0/1", "1/1", "-1/1", "0/2", "6/3", "100/10",
		"1/-2", "-1/-2", "-0", "-0/2", "-0/1", "1/-1", "--1/2", "-+1/2", "+1", "+1/2", "1/+2",
		"01", "00", "-01", "1/02", "01/2", "00/2", "1/002", " 1", "1 ", " 1/2", "1/2 ", "1 /2", "1/ 2", "1/2\n", "1\t/2",
		"1.5", "1e3", "1_000", "1,5", "0x1", "0x1/2", "1/0x2", "1\\2", "1:2", "1/2a", "a/2", "a", "inf", "-inf", "nought",
		"\x00", "1/\x002", "\xff/2", "\u0661/2", "1\u22152", "\u22121/2", "1/2-", "1-/2", "1/2/1",
		"000000000000000000", "1/000000000000000000", "-000000000000000000", "1-00000000000000000", "1/1+00000000000000000",
		"1-99999999999999999", "1+99999999999999999/2", "-000000000000000001", "1 00000000000000000",
		sevens(19) + "/" + sevens(20)[:19], "-" + sevens(30) + "/14",
	} {
		fails(t, s, api.ErrForm)
	}
}

// TestReadOfShort goes through all texts of up to four bytes out of those that matter, and one that does not.
func TestReadOfShort(t *testing.T) {
	quotients := map[string]*big.Rat{}
	wholes := map[string]bool{}
	for n := int64(-999); n <= 9999; n++ {
		quotients[big.NewInt(n).String()] = big.NewRat(n, 1)
		wholes[big.NewInt(n).String()] = true
	}
	for p := int64(-9); p <= 99; p++ {
		for q := int64(1); q <= 99; q++ {
			a := big.NewRat(p, q)
			quotients[a.RatString()] = a
		}
	}
	var look func(s string)
	look = func(s string) {
		before, isZero := strings.CutSuffix(s, "/0")
		if want, is := quotients[s]; is {
			a, e := Read(s)
			expect(t, "2.3: Read of "+s, a, want)
			if e != api.OK {
				t.Error("2.3: Read", s, e)
			}
		} else if isZero && wholes[before] {
			fails(t, s, api.ErrZero)
		} else {
			fails(t, s, api.ErrForm)
		}
		if len(s) < 4 {
			for _, c := range "012469-+/ " {
				look(s + string(c))
			}
		}
	}
	look("")
}
