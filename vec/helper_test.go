package vec

import (
	"math/big"
	"math/rand"
	"strings"
	"testing"

	"escarpment/api"
	"escarpment/num"
	"escarpment/rat"
)

// row reads quotients with blanks between them.
func row(s string) []api.Rat {
	var l []api.Rat
	for _, word := range strings.Fields(s) {
		l = append(l, number(word))
	}
	return l
}

// rows reads rows with commas between them; an empty text is no rows.
func rows(s string) [][]api.Rat {
	var m [][]api.Rat
	if s == "" {
		return m
	}
	for _, part := range strings.Split(s, ",") {
		m = append(m, row(part))
	}
	return m
}

func number(s string) api.Rat {
	a, e := rat.Read(s)
	if e != api.OK {
		panic("no quotient: " + s)
	}
	return a
}

func text(l []api.Rat) string {
	var words []string
	for _, a := range l {
		words = append(words, rat.Text(a))
	}
	return strings.Join(words, " ")
}

// bigOf tells what a counts as, as math/big does.
func bigOf(a api.Rat) *big.Rat {
	n, _ := new(big.Rat).SetString(rat.Text(a))
	return n
}

// expect holds a told quotient against the true one, part by part, so that another form of it is a fault too.
func expect(t *testing.T, what string, got api.Rat, want *big.Rat) {
	t.Helper()
	if !rat.May(got) || num.Text(got.P) != want.Num().String() || num.Text(got.Q) != want.Denom().String() {
		t.Errorf("%s: %v, want %v", what, got, want)
	}
}

func expectRow(t *testing.T, what string, got []api.Rat, want []*big.Rat) {
	t.Helper()
	if len(got) != len(want) {
		t.Errorf("%s: %d numbers, want %d", what, len(got), len(want))
		return
	}
	for i := range want {
		expect(t, what, got[i], want[i])
	}
}

// bigDot is Dot by math/big's hand.
func bigDot(a, b []api.Rat) *big.Rat {
	sum := new(big.Rat)
	for i := range a {
		sum.Add(sum, new(big.Rat).Mul(bigOf(a[i]), bigOf(b[i])))
	}
	return sum
}

// column tells the k-th number of each row.
func column(m [][]api.Rat, k int) []api.Rat {
	var l []api.Rat
	for _, r := range m {
		l = append(l, r[k])
	}
	return l
}

// wrong are such as may not be: by a part, by the denominator, by a factor in common.
func wrong() []api.Rat {
	n := num.Of
	return []api.Rat{
		{P: api.Int{Neg: true}}, {P: api.Int{Neg: true}, Q: n(1)}, {P: api.Int{L: []uint32{5, 0}}, Q: n(1)},
		{P: n(5), Q: api.Int{L: []uint32{1, 0}}}, {P: n(5)}, {P: n(-5)}, {Q: n(2)}, {Q: n(-1)}, {P: n(3), Q: n(-2)},
		{P: n(4), Q: n(6)}, {P: n(-4), Q: n(2)}, {P: n(7), Q: n(7)},
	}
}

// allNoughts are all that may be and are nought.
func allNoughts() []api.Rat {
	empty := api.Int{L: []uint32{}}
	return []api.Rat{{}, {P: empty, Q: empty}, {Q: num.Of(1)}, {P: empty, Q: num.Of(1)}}
}

// random tells a quotient in its least form, one in eight of them nought.
func random(r *rand.Rand, bits int) api.Rat {
	if r.Intn(8) == 0 {
		return rat.Of(0)
	}
	p, q := randomInt(r, bits), randomInt(r, bits)
	a, e := rat.Quo(p, q)
	if e != api.OK {
		return api.Rat{P: p, Q: num.Of(1)}
	}
	return a
}

func randomInt(r *rand.Rand, bits int) api.Int {
	n := new(big.Int).Rand(r, new(big.Int).Lsh(big.NewInt(1), uint(1+r.Intn(bits))))
	if r.Intn(2) == 0 {
		n.Neg(n)
	}
	a, e := num.Read(n.String())
	if e != api.OK {
		panic(n.String())
	}
	return a
}

func randomRow(r *rand.Rand, n, bits int) []api.Rat {
	l := make([]api.Rat, n)
	for i := range l {
		l[i] = random(r, bits)
	}
	return l
}

func randomRows(r *rand.Rand, count, n, bits int) [][]api.Rat {
	m := make([][]api.Rat, count)
	for i := range m {
		m[i] = randomRow(r, n, bits)
	}
	return m
}

// isZero: the zero value itself, not a nought with a denominator.
func isZero(a api.Rat) bool {
	return !a.P.Neg && !a.Q.Neg && len(a.P.L) == 0 && len(a.Q.L) == 0
}
