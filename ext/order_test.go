package ext

import (
	"cmp"
	"strings"
	"testing"
)

type named struct {
	size int
	name string
}

func bySize(a, b named) int {
	return cmp.Compare(a.size, b.size)
}

// TestGreater: of any order of any things, and of two alike the first, which here can be told apart.
func TestGreater(t *testing.T) {
	small, big, other := named{1, "small"}, named{9, "big"}, named{9, "other"}
	for _, c := range []struct{ a, b, most, least named }{
		{small, big, big, small}, {big, small, big, small}, {big, other, big, big}, {other, big, other, other},
	} {
		if got := greater(bySize, c.a, c.b); got != c.most {
			t.Error("3.1: greater", c, got)
		}
		if got := greater(turned(bySize), c.a, c.b); got != c.least {
			t.Error("3.1: greater of the turned order", c, got)
		}
	}
	if got := greater(strings.Compare, "a", "b"); got != "b" {
		t.Error("3.1: greater of texts", got)
	}
	far := func(a, b int) int { return 100 * (a - b) }
	if greater(far, 3, 4) != 4 || greater(turned(far), 3, 4) != 3 {
		t.Error("3.1: greater of an order that tells more than 1")
	}
}
