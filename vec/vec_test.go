package vec

import (
	"math"
	"math/big"
	"math/rand"
	"strings"
	"testing"

	"escarpment/api"
	"escarpment/rat"
)

// 4.1

func TestExample(t *testing.T) {
	got, e := Dot(row("1 2"), row("3 4"))
	expect(t, "4.1: Dot of (1, 2) and (3, 4)", got, big.NewRat(11, 1))
	if e != api.OK {
		t.Error("4.1: Dot of (1, 2) and (3, 4)", e)
	}
}

func TestDotByHand(t *testing.T) {
	for _, c := range []struct{ a, b, want string }{
		{"", "", "0"}, {"5", "7", "35"}, {"0", "7", "0"}, {"1/2", "2", "1"}, {"1/2 1/3", "1 1", "5/6"},
		{"1 2 3", "4 5 6", "32"}, {"1 -1", "9 9", "0"}, {"1/2 -3/4", "2/3 4/9", "0"}, {"-1 -2", "1/3 1/6", "-2/3"},
		{"0 0 1", "8 9 10", "10"}, {"18446744073709551616 1", "18446744073709551616 -1/2", "680564733841876926926749214863536422911/2"},
	} {
		for _, pair := range [][2]string{{c.a, c.b}, {c.b, c.a}} {
			if got, e := Dot(row(pair[0]), row(pair[1])); e != api.OK || rat.Text(got) != c.want || !rat.May(got) {
				t.Error("4.1: Dot", pair, rat.Text(got), e, "want", c.want)
			}
		}
	}
}

func TestPlusByHand(t *testing.T) {
	for _, c := range []struct{ a, t, b, want string }{
		{"", "3", "", ""}, {"1", "2", "3", "7"}, {"1 2", "0", "3 4", "1 2"}, {"1 2", "1", "3 4", "4 6"},
		{"1 2", "-1", "1 2", "0 0"}, {"1 -2 3", "1/2", "4 5 6", "3 1/2 6"}, {"0 0", "-2/3", "3 1/2", "-2 -1/3"},
		{"1/2 1/3 1/4", "1/2", "1 1/3 0", "1 1/2 1/4"},
	} {
		if got, e := Plus(row(c.a), number(c.t), row(c.b)); e != api.OK || text(got) != c.want {
			t.Error("4.1: Plus", c, text(got), e)
		}
	}
}

func TestTimesByHand(t *testing.T) {
	for _, c := range []struct{ m, x, want string }{
		{"", "", ""}, {"", "1 2", ""}, {"1 2", "3 4", "11"}, {"1 2,0 -1,3 0", "5 7", "19 -7 15"},
		{"1,2,1/2", "1/2", "1/2 1 1/4"}, {"1 0 0,0 1 0,0 0 1", "7 8/3 -9", "7 8/3 -9"}, {"0 0,0 0", "1 2", "0 0"},
	} {
		if got, e := Times(rows(c.m), row(c.x)); e != api.OK || text(got) != c.want {
			t.Error("4.1: Times", c, text(got), e)
		}
	}
}

func TestLeftByHand(t *testing.T) {
	for _, c := range []struct {
		y, m string
		n    int
		want string
	}{
		{"", "", 0, ""}, {"", "", 1, "0"}, {"", "", 3, "0 0 0"}, {"3", "1 2", 2, "3 6"},
		{"1 2 -1", "1 2,0 -1,3 0", 2, "-2 0"}, {"1/2 1/3", "1,1", 1, "5/6"}, {"0 0", "1 2 3,4 5 6", 3, "0 0 0"},
		{"7 8/3 -9", "1 0 0,0 1 0,0 0 1", 3, "7 8/3 -9"}, {"1 -1", "1/2 5,1/2 5", 2, "0 0"},
	} {
		if got, e := Left(row(c.y), rows(c.m), c.n); e != api.OK || text(got) != c.want {
			t.Error("4.1: Left", c, text(got), e)
		}
	}
}

// TestAgainstBig holds all calls, of rows of many lengths and sizes, against math/big.
func TestAgainstBig(t *testing.T) {
	r := rand.New(rand.NewSource(41))
	for i := range 1500 {
		n, count, bits := r.Intn(7), r.Intn(6), 2+i%90
		a, b, x := randomRow(r, n, bits), randomRow(r, n, bits), randomRow(r, n, bits)
		factor, m, y := random(r, bits), randomRows(r, count, n, bits), randomRow(r, count, bits)
		agrees(t, a, b, x, y, factor, m)
	}
}

// agrees holds all calls against math/big: a, b, x and each row of m are of one length, y has as many as m has rows.
func agrees(t *testing.T, a, b, x, y []api.Rat, factor api.Rat, m [][]api.Rat) {
	t.Helper()
	var added, times, left []*big.Rat
	for i := range a {
		product := new(big.Rat).Mul(bigOf(factor), bigOf(b[i]))
		added = append(added, product.Add(product, bigOf(a[i])))
		left = append(left, bigDot(y, column(m, i)))
	}
	for _, l := range m {
		times = append(times, bigDot(l, x))
	}
	dotOf, e1 := Dot(a, b)
	plusOf, e2 := Plus(a, factor, b)
	timesOf, e3 := Times(m, x)
	leftOf, e4 := Left(y, m, len(a))
	expect(t, "4.1: Dot", dotOf, bigDot(a, b))
	expectRow(t, "4.1: Plus", plusOf, added)
	expectRow(t, "4.1: Times", timesOf, times)
	expectRow(t, "4.1: Left", leftOf, left)
	for i, e := range []api.Errno{e1, e2, e3, e4} {
		if e != api.OK {
			t.Error("4.1: call", i, e)
		}
	}
}

// TestRowsOfNothing: a row without numbers, nil or empty, has a Dot of nought, and fits others such.
func TestRowsOfNothing(t *testing.T) {
	for _, none := range [][]api.Rat{nil, {}, make([]api.Rat, 0, 3)} {
		for _, m := range [][][]api.Rat{nil, {}, {none}, {nil, {}, none}} {
			y := make([]api.Rat, len(m))
			agrees(t, none, nil, none, y, rat.Of(3), m)
			agrees(t, nil, none, none, y, api.Rat{}, m)
		}
	}
}

// TestNoRows: Times tells nothing whatever x is, Left as many noughts as it is asked for.
func TestNoRows(t *testing.T) {
	for _, none := range [][][]api.Rat{nil, {}} {
		for _, n := range []int{0, 1, 2, 999, 1000} {
			if got, e := Times(none, make([]api.Rat, n)); e != api.OK || len(got) != 0 {
				t.Error("4.1: Times of no rows", n, got, e)
			}
			got, e := Left(nil, none, n)
			if e != api.OK || len(got) != n {
				t.Error("4.1: Left of no rows", n, len(got), e)
			}
			for _, a := range got {
				expect(t, "4.1: Left of no rows", a, new(big.Rat))
			}
		}
	}
}

// TestNoughtIsToldOverOne: nought as an answer has a denominator of 1, whatever it came from.
func TestNoughtIsToldOverOne(t *testing.T) {
	for _, a := range append(wrong(), allNoughts()...) {
		for _, b := range append(wrong(), allNoughts()...) {
			l, k := []api.Rat{a, b}, []api.Rat{b, a}
			agrees(t, l, k, k, l, a, [][]api.Rat{l, k})
		}
	}
}

// TestCountsAsNought: what may not be, wherever it stands, counts as nought beside what may be.
func TestCountsAsNought(t *testing.T) {
	l := row("2 -1/3 7/5")
	for i, bad := range append(wrong(), allNoughts()...) {
		for at := range l {
			k := append([]api.Rat{}, l...)
			k[at] = bad
			agrees(t, l, k, l, l, number("5/2"), [][]api.Rat{l, k, l})
			agrees(t, k, l, k, k, bad, [][]api.Rat{l, k, k})
			without := append([]api.Rat{}, l...)
			without[at] = rat.Of(0)
			got, e := Dot(k, l)
			want, _ := Dot(without, l)
			if e != api.OK || rat.Cmp(got, want) != 0 {
				t.Error("4.1: Dot with what may not be", i, at, rat.Text(got), "want", rat.Text(want))
			}
		}
		if got, e := Plus(l, bad, row("1 2 3")); e != api.OK || text(got) != text(l) {
			t.Error("4.1: Plus of nought times a row", i, text(got), e)
		}
	}
}

// TestLimitOfLeft: rows of 1000 numbers fit, of 1001 they do not; the other calls have no such limit.
func TestLimitOfLeft(t *testing.T) {
	r := rand.New(rand.NewSource(42))
	m := randomRows(r, 3, 1001, 12)
	y := row("2 -1/3 7")
	if got, e := Left(y, m, 1001); e != api.ErrArg || len(got) != 0 {
		t.Error("4.1: Left of 1001", len(got), e)
	}
	agreesAlone := func(n int) {
		cut := [][]api.Rat{m[0][:n], m[1][:n], m[2][:n]}
		agrees(t, cut[0], cut[1], cut[2], y, y[1], cut)
	}
	agreesAlone(1000)
	agreesAlone(999)
	long, e := Plus(m[0], y[1], m[1])
	if _, e2 := Dot(m[0], m[1]); e != api.OK || e2 != api.OK || len(long) != 1001 {
		t.Error("4.1: rows of 1001", e, e2, len(long))
	}
	if got, e := Times(m, m[0]); e != api.OK || len(got) != 3 {
		t.Error("4.1: Times with 1001", e)
	}
}

// TestManyRows: how many rows there are is not bounded by 1000.
func TestManyRows(t *testing.T) {
	r := rand.New(rand.NewSource(43))
	m := randomRows(r, 1500, 2, 4)
	y := make([]api.Rat, len(m))
	for i := range y {
		y[i] = rat.Of(int64(i % 7))
	}
	agrees(t, m[0], m[1], m[2], y, rat.Of(2), m)
}

// TestLongNumbers: what is told fits no int64, and no 5000 digits either.
func TestLongNumbers(t *testing.T) {
	long := api.Rat{P: number(strings.Repeat("7", 4000)).P, Q: number("1" + strings.Repeat("0", 3000)).P}
	if !rat.May(long) {
		t.Fatal("no quotient in its least form")
	}
	l := []api.Rat{long, rat.Of(math.MinInt64), number("-1/3")}
	agrees(t, l, l, l, l, long, [][]api.Rat{l, row("1 2 3"), l})
}

func TestUnlikeLengths(t *testing.T) {
	for n := range 5 {
		for k := range 5 {
			if n == k {
				continue
			}
			a, b := make([]api.Rat, n), make([]api.Rat, k)
			if got, e := Dot(a, b); e != api.ErrArg || !isZero(got) {
				t.Error("4.1: Dot of unlike lengths", n, k, got, e)
			}
			if got, e := Plus(a, rat.Of(1), b); e != api.ErrArg || got != nil {
				t.Error("4.1: Plus of unlike lengths", n, k, got, e)
			}
			if got, e := Times([][]api.Rat{a}, b); e != api.ErrArg || got != nil {
				t.Error("4.1: Times of unlike lengths", n, k, got, e)
			}
			if got, e := Left(a, make([][]api.Rat, k), 0); e != api.ErrArg || got != nil {
				t.Error("4.1: Left of unlike lengths", n, k, got, e)
			}
			if got, e := Left(make([]api.Rat, 1), [][]api.Rat{a}, k); e != api.ErrArg || got != nil {
				t.Error("4.1: Left of a row that is not of n", n, k, got, e)
			}
		}
	}
}

// TestOneRowThatDoesNotFit: be it the first, the last or between, shorter or longer.
func TestOneRowThatDoesNotFit(t *testing.T) {
	for at := range 4 {
		for _, odd := range []string{"", "1", "1 2 3"} {
			m := rows("1 2,3 4,5 6,7 8")
			m[at] = row(odd)
			if got, e := Times(m, row("1 1")); e != api.ErrArg || got != nil {
				t.Error("4.1: Times with an odd row", at, odd, got, e)
			}
			if got, e := Left(row("1 1 1 1"), m, 2); e != api.ErrArg || got != nil {
				t.Error("4.1: Left with an odd row", at, odd, got, e)
			}
		}
	}
}

// TestWidthOfLeft: n must be from 0 to 1000, even where no row contradicts it.
func TestWidthOfLeft(t *testing.T) {
	for _, n := range []int{-1, -2, -1000, math.MinInt, math.MinInt32, 1001, 1002, math.MaxInt32, math.MaxInt} {
		if got, e := Left(nil, nil, n); e != api.ErrArg || got != nil {
			t.Error("4.1: Left of", n, len(got), e)
		}
		if got, e := Left(row("1"), rows("1 2"), n); e != api.ErrArg || got != nil {
			t.Error("4.1: Left of", n, len(got), e)
		}
	}
}

// 4.2

func TestLeftAndTimes(t *testing.T) {
	r := rand.New(rand.NewSource(44))
	for i := range 2000 {
		n, count, bits := r.Intn(7), r.Intn(7), 2+i%60
		m, x, y := randomRows(r, count, n, bits), randomRow(r, n, bits), randomRow(r, count, bits)
		leftAndTimes(t, y, m, x)
	}
	for _, bad := range append(wrong(), allNoughts()...) {
		m := rows("1 2/3,-4 5,0 1/7")
		m[1][0] = bad
		leftAndTimes(t, []api.Rat{rat.Of(2), rat.Of(3), bad}, m, row("1/2 9"))
		leftAndTimes(t, row("1 2 3"), m, []api.Rat{bad, rat.Of(5)})
	}
}

func leftAndTimes(t *testing.T, y []api.Rat, m [][]api.Rat, x []api.Rat) {
	t.Helper()
	left, e1 := Left(y, m, len(x))
	times, e2 := Times(m, x)
	a, e3 := Dot(left, x)
	b, e4 := Dot(y, times)
	if e1 != api.OK || e2 != api.OK || e3 != api.OK || e4 != api.OK {
		t.Error("4.2:", e1, e2, e3, e4)
	}
	if rat.Text(a) != rat.Text(b) || !rat.May(a) || !rat.May(b) || isZero(a) || isZero(b) {
		t.Error("4.2:", y, m, x, "tell", a, b)
	}
}
