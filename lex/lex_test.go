package lex

import (
	"math/rand"
	"strings"
	"testing"

	"escarpment/api"
)

// 7.1

func TestExample(t *testing.T) {
	tokensAre(t, "x=1;", name("x", 0), mark("=", 1), digits("1", 2), mark(";", 3), end(4))
}

func TestNothing(t *testing.T) {
	tokensAre(t, "", end(0))
	for _, s := range []string{" ", "\t", "\n", "\r", "\r\n", " \t\n\r ", "#", "##", "# x", "#\n", "# x\n", "#\n#\n#", "\n# 01 ?\n"} {
		tokensAre(t, s, end(len(s)))
	}
}

func TestOneOfEachKind(t *testing.T) {
	tokensAre(t, "proc m(a, b) -> r {\n\tr = 10 * a_1; # ? 01 é\r\n\twhile r >= 0 { skip; }\n}",
		key("proc", 0), name("m", 5), mark("(", 6), name("a", 7), mark(",", 8), name("b", 10), mark(")", 11),
		mark("->", 13), name("r", 16), mark("{", 18),
		name("r", 21), mark("=", 23), digits("10", 25), mark("*", 28), name("a_1", 30), mark(";", 33),
		key("while", 47), name("r", 53), mark(">=", 55), digits("0", 58), mark("{", 60), key("skip", 62), mark(";", 66),
		mark("}", 68), mark("}", 70), end(71))
}

func TestKeyWords(t *testing.T) {
	all := keys()
	if len(all) != 15 {
		t.Fatal("the document has 15 key words", all)
	}
	for _, w := range all {
		tokensAre(t, w, key(w, 0), end(len(w)))
		tokensAre(t, "x "+w+";", name("x", 0), key(w, 2), mark(";", 2+len(w)), end(3+len(w)))
		for _, behind := range []string{"a", "z", "_", "0", "9", w} {
			tokensAre(t, w+behind, name(w+behind, 0), end(len(w+behind)))
		}
		for n := 1; n < len(w); n++ {
			tokensAre(t, w[:n], name(w[:n], 0), end(n))
		}
		isRefused(t, strings.ToUpper(w), api.ErrWord, 0)
		isRefused(t, w+"A", api.ErrWord, len(w))
		isRefused(t, "_"+w, api.ErrWord, 0)
		isRefused(t, "1"+w, api.ErrWord, 0)
	}
	for _, w := range []string{"for", "do", "return", "int", "end", "xor", "nil", "elseif", "procs", "tru", "nott", "o", "a_proc", "while1", "if_"} {
		tokensAre(t, w, name(w, 0), end(len(w)))
	}
}

func TestNames(t *testing.T) {
	for _, w := range []string{"a", "z", "x", "m", "x1", "x_", "x__", "x0", "x9", "x_9a", "a0b1c2", "abcdefghijklmnop", "qrstuvwxyz", "z123456789012345", "a_______________"} {
		tokensAre(t, w, name(w, 0), end(len(w)))
		tokensAre(t, " "+w+"+", name(w, 1), mark("+", 1+len(w)), end(2+len(w)))
	}
	tokensAre(t, "x y", name("x", 0), name("y", 2), end(3))
	for _, s := range []string{"_", "_x", "__", "X", "Xy", "A", "Z", "É", "é", "ß", "λ"} {
		isRefused(t, s, api.ErrWord, 0)
		isRefused(t, "x "+s, api.ErrWord, 2)
	}
	for _, s := range []string{"xA", "xé", "x`", "x@", "x'", "x.", "x$", "x:"} {
		isRefused(t, s, api.ErrWord, 1)
	}
}

func TestNamesAtTheirLimit(t *testing.T) {
	if api.MaxName != 16 {
		t.Fatal("api.MaxName:", api.MaxName)
	}
	for _, with := range []string{"a", "z", "0", "9", "_"} {
		for n := range 16 {
			w := "v" + strings.Repeat(with, n)
			tokensAre(t, w, name(w, 0), end(n+1))
		}
		for _, n := range []int{16, 17, 100, 8000, 8189} {
			w := "v" + strings.Repeat(with, n)
			isRefused(t, w, api.ErrLong, 0)
			isRefused(t, "; "+w, api.ErrLong, 2)
			isRefused(t, w+"?", api.ErrLong, 0)
		}
	}
	// Two names in one run of letters there are not, nor a key word that begins a name that is too long.
	isRefused(t, "abcdefghijklmnopqrstuvwxyz", api.ErrLong, 0)
	isRefused(t, "while"+strings.Repeat("x", 12), api.ErrLong, 0)
	tokensAre(t, "while"+strings.Repeat("x", 11), name("whilexxxxxxxxxxx", 0), end(16))
	tokensAre(t, "abcdefghijklmnop qrstuvwxyz012345", name("abcdefghijklmnop", 0), name("qrstuvwxyz012345", 17), end(33))
}

func TestNumbers(t *testing.T) {
	for _, s := range []string{"0", "1", "9", "10", "90", "100", "101", "1000", "123456789", "987654321", "999999999", "100000000"} {
		tokensAre(t, s, digits(s, 0), end(len(s)))
		tokensAre(t, "-"+s+")", mark("-", 0), digits(s, 1), mark(")", 1+len(s)), end(2+len(s)))
	}
	tokensAre(t, "0 0 1", digits("0", 0), digits("0", 2), digits("1", 4), end(5))
	tokensAre(t, "0;0", digits("0", 0), mark(";", 1), digits("0", 2), end(3))
	tokensAre(t, "1#2\n3", digits("1", 0), digits("3", 4), end(5))
	tokensAre(t, "1\r2", digits("1", 0), digits("2", 2), end(3))
}

func TestNumbersAtTheirLimit(t *testing.T) {
	if api.MaxDigit != 9 {
		t.Fatal("api.MaxDigit:", api.MaxDigit)
	}
	for n := 1; n <= 9; n++ {
		s := strings.Repeat("7", n)
		tokensAre(t, s, digits(s, 0), end(n))
	}
	for _, n := range []int{10, 11, 18, 19, 20, 100, 8190} {
		isRefused(t, strings.Repeat("7", n), api.ErrLong, 0)
		isRefused(t, "x "+strings.Repeat("7", n), api.ErrLong, 2)
	}
	tokensAre(t, "999999999 999999999", digits("999999999", 0), digits("999999999", 10), end(19))
}

// TestNumbersTooLongAndWrong: of two errors of one number the first that the document names counts.
func TestNumbersTooLongAndWrong(t *testing.T) {
	for _, s := range []string{"0123456789", "0000000000", "1234567890a", "1234567890_", "0123456789z", "00000000001", "1234567890proc"} {
		isRefused(t, s, api.ErrLong, 0)
		isRefused(t, "\n("+s, api.ErrLong, 2)
	}
	for _, s := range []string{"012345678", "000000000", "123456789a", "123456789_", "012345678a"} {
		isRefused(t, s, api.ErrWord, 0)
	}
}

func TestNumbersWithANoughtAhead(t *testing.T) {
	for _, s := range []string{"00", "01", "09", "000", "001", "010", "00000001", "00a", "01_"} {
		isRefused(t, s, api.ErrWord, 0)
		isRefused(t, "x="+s+";", api.ErrWord, 2)
	}
}

func TestNumbersWithALetterBehind(t *testing.T) {
	for _, s := range []string{"1a", "1z", "1m", "1_", "0a", "0x1", "0_", "12a", "12_3", "1e9", "9proc", "1if", "1_a"} {
		isRefused(t, s, api.ErrWord, 0)
		isRefused(t, "x="+s+";", api.ErrWord, 2)
	}
	// What is no letter of the language begins no token: it is wrong at a place of its own.
	for _, s := range []string{"1A", "1Z", "1é", "1.5", "1'", "1`", "1@", "1\x00", "1\xff"} {
		isRefused(t, s, api.ErrWord, 1)
	}
}

func TestSigns(t *testing.T) {
	all := signs()
	if len(all) != 21 {
		t.Fatal("the document has 21 signs", all)
	}
	for _, s := range all {
		n := len(s)
		tokensAre(t, s, mark(s, 0), end(n))
		tokensAre(t, "x"+s+"x", name("x", 0), mark(s, 1), name("x", 1+n), end(2+n))
		tokensAre(t, "1"+s+"1", digits("1", 0), mark(s, 1), digits("1", 1+n), end(2+n))
		tokensAre(t, "if"+s+"#", key("if", 0), mark(s, 2), end(3+n))
	}
}

func TestTheLongestSign(t *testing.T) {
	tokensAre(t, "===", mark("==", 0), mark("=", 2), end(3))
	tokensAre(t, "====", mark("==", 0), mark("==", 2), end(4))
	tokensAre(t, "= =", mark("=", 0), mark("=", 2), end(3))
	tokensAre(t, "<==", mark("<=", 0), mark("=", 2), end(3))
	tokensAre(t, "=<=", mark("=", 0), mark("<=", 1), end(3))
	tokensAre(t, "=>", mark("=", 0), mark(">", 1), end(2))
	tokensAre(t, "=>=", mark("=", 0), mark(">=", 1), end(3))
	tokensAre(t, "<>", mark("<", 0), mark(">", 1), end(2))
	tokensAre(t, "<-", mark("<", 0), mark("-", 1), end(2))
	tokensAre(t, "<->", mark("<", 0), mark("->", 1), end(3))
	tokensAre(t, "--", mark("-", 0), mark("-", 1), end(2))
	tokensAre(t, "-->", mark("-", 0), mark("->", 1), end(3))
	tokensAre(t, "->>", mark("->", 0), mark(">", 2), end(3))
	tokensAre(t, "->=", mark("->", 0), mark("=", 2), end(3))
	tokensAre(t, "-=>", mark("-", 0), mark("=", 1), mark(">", 2), end(3))
	tokensAre(t, "-\n>", mark("-", 0), mark(">", 2), end(3))
	tokensAre(t, "<#\n=", mark("<", 0), mark("=", 3), end(4))
	tokensAre(t, "!==", mark("!=", 0), mark("=", 2), end(3))
	tokensAre(t, "+=", mark("+", 0), mark("=", 1), end(2))
	tokensAre(t, "**", mark("*", 0), mark("*", 1), end(2))
	tokensAre(t, "//", mark("/", 0), mark("/", 1), end(2))
	for _, s := range []string{"!", "! =", "!!=", "!>", "!#\n="} {
		isRefused(t, s, api.ErrWord, 0)
	}
	isRefused(t, "=!", api.ErrWord, 1)
	isRefused(t, "!=!", api.ErrWord, 2)
}

// TestSignsBehindOneAnother: each two and each three of the signs, with nothing and with blanks between.
func TestSignsBehindOneAnother(t *testing.T) {
	all := append(signs(), "!", "&", "|", ":", " ", "x", "1")
	for _, a := range all {
		for _, b := range all {
			expectAsByPatterns(t, a+b)
			expectAsByPatterns(t, a+" "+b)
			for _, c := range all {
				expectAsByPatterns(t, a+b+c)
			}
		}
	}
}

func TestGaps(t *testing.T) {
	for _, g := range []string{" ", "\t", "\n", "\r", "\r\n", "  ", " \t\r\n ", "#\n", "# 1\n", "#x\n#y\n", " # ?\r\n\t", "#\n\n"} {
		n := len(g)
		tokensAre(t, "a"+g+"b", name("a", 0), name("b", 1+n), end(2+n))
		tokensAre(t, g+"1"+g+"2"+g, digits("1", n), digits("2", 1+2*n), end(2+3*n))
		tokensAre(t, "<"+g+"=", mark("<", 0), mark("=", 1+n), end(2+n))
		tokensAre(t, "skip"+g, key("skip", 0), end(4+n))
		isRefused(t, g+"?", api.ErrWord, n)
	}
	for _, c := range []string{"\v", "\f", "\x00", "\x1f", "\x7f", "\x85", "\xa0", "\u00a0", "\u0085", "\u2028", "\u3000", "\ufeff"} {
		isRefused(t, c, api.ErrWord, 0)
		isRefused(t, "a "+c+"b", api.ErrWord, 2)
	}
}

func TestRemarks(t *testing.T) {
	tokensAre(t, "x#y", name("x", 0), end(3))
	tokensAre(t, "x#y\nz", name("x", 0), name("z", 4), end(5))
	tokensAre(t, "x # y # z\nif", name("x", 0), key("if", 10), end(12))
	tokensAre(t, "1# \"a\" 'b' /* */ é \\\n2", digits("1", 0), digits("2", 22), end(23))
	tokensAre(t, "#\nx#", name("x", 2), end(4))
	// A line ends with a byte 10 alone.
	tokensAre(t, "# x\ry\nz", name("z", 6), end(7))
	tokensAre(t, "# x\ry", end(5))
	tokensAre(t, "# x\vy\fz\u2028w", end(len("# x\vy\fz\u2028w")))
	// In a remark nothing is wrong, nor too long.
	long := "# " + strings.Repeat("abcdefghij0123456789", 100) + " 01 ! X"
	tokensAre(t, long, end(len(long)))
	tokensAre(t, long+"\nx", name("x", len(long)+1), end(len(long)+2))
	for c := range 256 {
		if c == '\n' {
			continue
		}
		s := "x#" + string([]byte{byte(c)}) + "?"
		tokensAre(t, s, name("x", 0), end(4))
		tokensAre(t, s+"\ny", name("x", 0), name("y", 5), end(6))
	}
}

// TestEachByte: alone, and ahead of and behind each kind of token, with and without a blank between.
func TestEachByte(t *testing.T) {
	begins := 0
	for c := range 256 {
		s := string([]byte{byte(c)})
		if _, e, _ := Lex(s); e == api.OK {
			begins++
		}
		for _, by := range []string{"", "x", "12", "0", "or", "=", "<", "-", " ", "\n", "?", "#", "#\n", "abcdefghijklmnop", "123456789"} {
			expectAsByPatterns(t, s+by)
			expectAsByPatterns(t, by+s)
			expectAsByPatterns(t, by+s+by)
			expectAsByPatterns(t, by+" "+s+" "+by)
		}
	}
	// Letters, digits, signs of one byte, what parts tokens, `#`.
	if want := 26 + 10 + 16 + 4 + 1; begins != want {
		t.Error("7.1: so many bytes stand alone:", begins, "want", want)
	}
}

func TestTextAtItsLimit(t *testing.T) {
	if api.MaxText != 8192 {
		t.Fatal("api.MaxText:", api.MaxText)
	}
	blanks := strings.Repeat(" ", 8192)
	tokensAre(t, blanks, end(8192))
	tokensAre(t, blanks[1:], end(8191))
	tokensAre(t, blanks[1:]+"x", name("x", 8191), end(8192))
	tokensAre(t, "x"+blanks[1:], name("x", 0), end(8192))
	tokensAre(t, "#"+strings.Repeat("?", 8191), end(8192))
	tokensAre(t, blanks[9:]+"123456789", digits("123456789", 8183), end(8192))
	isRefused(t, blanks[1:]+"?", api.ErrWord, 8191)
	isRefused(t, blanks[2:]+"01", api.ErrWord, 8190)
	isRefused(t, blanks[17:]+"abcdefghijklmnopq", api.ErrLong, 8175)
	isRefused(t, strings.Repeat("?", 8192), api.ErrWord, 0)
	isRefused(t, strings.Repeat("x", 8192), api.ErrLong, 0)
}

func TestTextTooLong(t *testing.T) {
	for _, n := range []int{8193, 8194, 10000, 1 << 24} {
		for _, s := range []string{" ", "x", "1", "?", ";", "#", "\n", "\x00", "\xff"} {
			isRefused(t, strings.Repeat(s, n), api.ErrLong, 8192)
		}
	}
	// Whatever else is wrong in it.
	blanks := strings.Repeat(" ", 8192)
	for _, s := range []string{"?" + blanks, blanks + "?", "01" + blanks, "x;" + blanks, blanks + "#", "1234567890" + blanks, "abcdefghijklmnopq" + blanks} {
		isRefused(t, s, api.ErrLong, 8192)
	}
}

func TestMostTokens(t *testing.T) {
	var want []api.Token
	for i := range 8192 {
		want = append(want, mark(";", i))
	}
	tokensAre(t, strings.Repeat(";", 8192), append(want, end(8192))...)
	want = nil
	for i := range 4096 {
		want = append(want, name("x", 2*i))
	}
	tokensAre(t, strings.Repeat("x ", 4096), append(want, end(8192))...)
}

func TestTheFirstError(t *testing.T) {
	const tooLong, aName = "1234567890", "abcdefghijklmnopq"
	for _, c := range []struct {
		s  string
		e  api.Errno
		at int
	}{
		{"? 01 " + tooLong, api.ErrWord, 0},
		{"01 ? " + aName, api.ErrWord, 0},
		{"x = 1; y = 1a; z = " + tooLong, api.ErrWord, 11},
		{tooLong + " ? 01", api.ErrLong, 0},
		{aName + " ? 01", api.ErrLong, 0},
		{"1 " + aName + " " + tooLong, api.ErrLong, 2},
		{"x " + tooLong + aName, api.ErrLong, 2},
		{"# ?\n! ?", api.ErrWord, 4},
		{"# 01\nx 00 X", api.ErrWord, 7},
		{"proc ok ( ) { x = X ; y = ? ; }", api.ErrWord, 18},
		{"é?", api.ErrWord, 0},
		{"\xff\xfe", api.ErrWord, 0},
		{"x\n\n\n @ $", api.ErrWord, 5},
		{aName + "A", api.ErrLong, 0},
		{"1A" + tooLong, api.ErrWord, 1},
	} {
		isRefused(t, c.s, c.e, c.at)
	}
}

// TestRandomTexts: of pieces that are near to tokens, and of bytes.
func TestRandomTexts(t *testing.T) {
	pieces := append(append(signs(), keys()...), " ", " ", "\n", "\t", "\r", "#", "# a\n", "x", "y_1", "z", "0", "1", "42", "999999999", "abcdefghijklmnop")
	rare := []string{"!", "?", "X", "_", "é", "\x00", "\xff", "00", "1234567890", "abcdefghijklmnopq", "12a"}
	r := rand.New(rand.NewSource(71))
	for i := range 20000 {
		var s strings.Builder
		for range r.Intn(30) {
			l := pieces
			if i%3 == 0 && r.Intn(20) == 0 {
				l = rare
			}
			s.WriteString(l[r.Intn(len(l))])
			if i%2 == 0 {
				s.WriteString(" ")
			}
		}
		expectAsByPatterns(t, s.String())
	}
	for range 20000 {
		l := make([]byte, r.Intn(8))
		for k := range l {
			l[k] = byte(r.Intn(256))
		}
		expectAsByPatterns(t, string(l))
	}
}

// TestShortTexts: all texts of up to four bytes out of some of each kind.
func TestShortTexts(t *testing.T) {
	const some = "ao_A09 \n\r#=<!->(?\xe9"
	texts := []string{""}
	for range 4 {
		var longer []string
		for _, s := range texts {
			for i := range len(some) {
				longer = append(longer, s+some[i:i+1])
			}
		}
		for _, s := range longer {
			expectAsByPatterns(t, s)
		}
		texts = longer
	}
}

// TestPlaces: the texts at their places and what parts them are all of the source, and the places rise.
func TestPlaces(t *testing.T) {
	for _, s := range texts() {
		tokens, e, _ := Lex(s)
		if e != api.OK {
			continue
		}
		from := 0
		for _, token := range tokens {
			if token.At < from || s[token.At:token.At+len(token.Text)] != token.Text {
				t.Fatalf("7.1: %v does not stand in %.20q", token, s)
			}
			if parts := s[from:token.At]; gapHere.FindString(parts) != parts {
				t.Fatalf("7.1: %q is passed over in %.20q", parts, s)
			}
			from = token.At + len(token.Text)
		}
		if from != len(s) || tokens[len(tokens)-1].Kind != api.TokEnd {
			t.Errorf("7.1: %.20q is not gone through to its end", s)
		}
	}
}
