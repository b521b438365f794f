package ext

import (
	"fmt"
	"math"
	"math/big"
	"math/rand"
	"testing"

	"escarpment/api"
	"escarpment/num"
	"escarpment/rat"
)

var (
	low  = api.Ext{Kind: -1}
	high = api.Ext{Kind: 1}
)

func quo(p, q int64) api.Rat {
	a, e := rat.Quo(num.Of(p), num.Of(q))
	if e != api.OK {
		panic("a denominator of nought")
	}
	return a
}

func of(p, q int64) api.Ext {
	return api.Ext{V: quo(p, q)}
}

// long tells a quotient of some hundred digits.
func long(sign int64) api.Rat {
	p, q := num.Of(sign), num.Of(1)
	for range 200 {
		p, q = num.Mul(p, num.Of(3)), num.Mul(q, num.Of(2))
	}
	return api.Rat{P: p, Q: q}
}

// quotients rise, each in its least form.
func quotients() []api.Rat {
	return []api.Rat{
		long(-1), rat.Of(math.MinInt64), rat.Of(-1 << 32), rat.Of(-3), quo(-5, 2), rat.Of(-1), quo(-1, 2), quo(-1, 3),
		quo(-1, math.MaxInt64), rat.Of(0), quo(1, math.MaxInt64), quo(1, 3), quo(1, 2), quo(2, 3), rat.Of(1), quo(3, 2),
		rat.Of(2), rat.Of(math.MaxUint32), rat.Of(1 << 32), rat.Of(math.MaxInt64), long(1),
	}
}

// rising are both ends and quotients between them, each above the one ahead of it.
func rising() []api.Ext {
	l := []api.Ext{low}
	for _, a := range quotients() {
		l = append(l, api.Ext{V: a})
	}
	return append(l, high)
}

// bareRats are all forms of the zero value of a quotient: a nil list and an empty one are one.
func bareRats() []api.Rat {
	empty := api.Int{L: []uint32{}}
	spare := api.Int{L: make([]uint32, 0, 3)}
	return []api.Rat{{}, {P: empty}, {Q: empty}, {P: empty, Q: empty}, {P: spare, Q: spare}}
}

// noughts are all that may be and are nought.
func noughts() []api.Ext {
	l := []api.Ext{{V: rat.Of(0)}, {V: api.Rat{P: api.Int{L: []uint32{}}, Q: num.Of(1)}}}
	for _, a := range bareRats() {
		l = append(l, api.Ext{V: a})
	}
	return l
}

// ends are all forms of the end of that Kind.
func ends(kind int) []api.Ext {
	var l []api.Ext
	for _, a := range bareRats() {
		l = append(l, api.Ext{Kind: kind, V: a})
	}
	return l
}

// wrongRats are such as may not be (2.1).
func wrongRats() []api.Rat {
	n := num.Of
	return []api.Rat{
		{P: n(2)}, {P: n(-2)}, {Q: n(2)}, {Q: n(-1)}, {P: n(1), Q: n(-1)}, {P: n(-3), Q: n(-2)}, {P: n(4), Q: n(6)},
		{P: n(6), Q: n(3)}, {P: api.Int{Neg: true}}, {Q: api.Int{Neg: true}}, {P: api.Int{Neg: true}, Q: n(1)},
		{P: api.Int{L: []uint32{0}}}, {Q: api.Int{L: []uint32{0}}}, {P: api.Int{L: []uint32{0}}, Q: n(1)},
		{P: api.Int{L: []uint32{5, 0}}, Q: n(1)}, {P: n(5), Q: api.Int{L: []uint32{1, 0}}},
	}
}

// wrong are such as may not be: by the Kind, by what stands beside an end, by V.
func wrong() []api.Ext {
	var l []api.Ext
	beside := append(append(bareRats(), wrongRats()...), quotients()...)
	for _, kind := range []int{2, -2, 3, 7, -8, 1 << 32, 1<<32 + 1, 256, 255, math.MaxInt64, math.MinInt64} {
		for _, v := range beside {
			l = append(l, api.Ext{Kind: kind, V: v})
		}
	}
	for _, v := range append(wrongRats(), quotients()...) {
		l = append(l, api.Ext{Kind: -1, V: v}, api.Ext{Kind: 1, V: v})
	}
	for _, v := range wrongRats() {
		l = append(l, api.Ext{V: v})
	}
	return l
}

func random(r *rand.Rand, bits int) api.Rat {
	p, q := randomInt(r, bits), randomInt(r, bits)
	if len(q.L) == 0 {
		q = num.Of(1)
	}
	a, _ := rat.Quo(p, q)
	return a
}

func randomInt(r *rand.Rand, bits int) api.Int {
	n := new(big.Int).Rand(r, new(big.Int).Lsh(big.NewInt(1), uint(r.Intn(bits))))
	a, _ := num.Read(n.String())
	if r.Intn(2) == 0 {
		return num.Neg(a)
	}
	return a
}

// randomExt tells an end one time out of five, by any form of it; small bits bring alike ones.
func randomExt(r *rand.Rand, bits int) api.Ext {
	switch r.Intn(10) {
	case 0:
		return ends(-1)[r.Intn(len(bareRats()))]
	case 1:
		return ends(1)[r.Intn(len(bareRats()))]
	}
	return api.Ext{V: random(r, bits)}
}

// expect holds what was told against the one form of it, part by part.
func expect(t *testing.T, what string, got, want api.Ext) {
	t.Helper()
	if fmt.Sprint(got) != fmt.Sprint(want) || !May(got) {
		t.Errorf("%s: %v, want %v", what, got, want)
	}
}

// form tells a, which may be, in the form in which it is told: nought by 1, an end with the zero value.
func form(a api.Ext) api.Ext {
	if a.Kind != 0 {
		return api.Ext{Kind: a.Kind}
	}
	if len(a.V.P.L) == 0 {
		return api.Ext{V: rat.Of(0)}
	}
	return a
}
