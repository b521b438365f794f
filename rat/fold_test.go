package rat

import (
	"math/big"
	"strings"
	"testing"

	"escarpment/api"
	"escarpment/num"
)

// TestFold: one after the other, whatever the things and what they are joined to are.
func TestFold(t *testing.T) {
	digits := func(n, digit int) int { return 10*n + digit }
	if got := fold([]int{1, 2, 3}, 9, digits); got != 9123 {
		t.Error("fold", got)
	}
	if got := fold(nil, 9, digits); got != 9 {
		t.Error("fold of none", got)
	}
	if got := fold([]string{"a", "bb", "ccc"}, 0, func(n int, s string) int { return n + len(s) }); got != 6 {
		t.Error("fold of texts", got)
	}
	if got := fold([]int{2, 3}, "", func(s string, n int) string { return s + strings.Repeat("x", n) + "." }); got != "xx.xxx." {
		t.Error("fold into a text", got)
	}
}

func TestSumOfMany(t *testing.T) {
	var l []api.Rat
	want := new(big.Rat)
	for k := int64(1); k <= 30; k++ {
		l = append(l, api.Rat{P: num.Of(1), Q: num.Of(k)})
		want.Add(want, big.NewRat(1, k))
	}
	expect(t, "sum of 1/k", sum(Of(0), l...), want)
	expect(t, "sum of one", sum(l[6]), big.NewRat(1, 7))
}
