package scope

import (
	"math/rand"
	"slices"
	"testing"
)

// isSetOf holds a set against the list that it was made of.
func isSetOf[T comparable](t *testing.T, l, no []T) {
	t.Helper()
	before := slices.Clone(l)
	s := setOf(l)
	if !slices.Equal(l, before) {
		t.Errorf("R3: setOf changes %v", before)
	}
	apart := 0
	for at, one := range l {
		if slices.Index(l, one) == at {
			apart++
		}
		if !s.has(one) || s.first(one) != slices.Index(l, one) {
			t.Errorf("of %v: %v at %d, %v", l, one, s.first(one), s.has(one))
		}
	}
	for _, one := range no {
		if s.has(one) {
			t.Errorf("%v has no %v", l, one)
		}
	}
	if len(s) != apart {
		t.Errorf("of %v: %d apart", l, len(s))
	}
}

// TestSet: a set of any kind of things.
func TestSet(t *testing.T) {
	isSetOf(t, nil, []string{"", "a"})
	isSetOf(t, []string{"a"}, []string{"", "b", "aa"})
	isSetOf(t, []string{"a", "b", "a", "", "c", "b", "aa"}, []string{"ab", "d"})
	isSetOf(t, []int{3, 0, 3, -1, 0}, []int{1, 2, -3})
	isSetOf(t, [][2]byte{{1, 2}, {2, 1}, {1, 2}}, [][2]byte{{1, 1}, {}})
	r := rand.New(rand.NewSource(4))
	for range 1000 {
		l := make([]int, r.Intn(20))
		for i := range l {
			l[i] = r.Intn(15)
		}
		isSetOf(t, l, []int{-1, 15})
	}
}
