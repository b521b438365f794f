package vec

import (
	"slices"
	"strings"
	"testing"
)

// TestMapped: in order, each once, with its place, whatever the things and what is made of them are.
func TestMapped(t *testing.T) {
	got := mapped([]string{"a", "bb", ""}, func(at int, s string) int { return 10*at + len(s) })
	if !slices.Equal(got, []int{1, 12, 20}) {
		t.Error("mapped", got)
	}
	texts := mapped([]int{2, 0, 1}, func(at, n int) string { return strings.Repeat("x", n) })
	if !slices.Equal(texts, []string{"xx", "", "x"}) {
		t.Error("mapped into texts", texts)
	}
	var order []int
	mapped([]int{5, 6, 7}, func(at, n int) int { order = append(order, at, n); return 0 })
	if !slices.Equal(order, []int{0, 5, 1, 6, 2, 7}) {
		t.Error("mapped goes another way", order)
	}
	if none := mapped(nil, func(at, n int) int { t.Error("mapped of none"); return 0 }); len(none) != 0 {
		t.Error("mapped of none", none)
	}
}

func TestAreOfLength(t *testing.T) {
	for _, c := range []struct {
		m    string
		n    int
		want bool
	}{{"", 0, true}, {"", 7, true}, {"1 2", 2, true}, {"1 2,3 4", 2, true}, {"1 2,3", 2, false}, {"1,2 3", 2, false}, {"1 2", 1, false}, {" , ", 0, true}} {
		if areOfLength(rows(c.m), c.n) != c.want {
			t.Error("areOfLength", c)
		}
	}
}

func TestColumns(t *testing.T) {
	for _, c := range []struct {
		m    string
		n    int
		want string
	}{{"", 0, ""}, {"", 2, "|"}, {" , ", 0, ""}, {"1 2 3", 3, "1|2|3"}, {"1,2", 1, "1 2"}, {"1 2 3,4 5 6", 3, "1 4|2 5|3 6"}} {
		var told []string
		got := columns(rows(c.m), c.n)
		for _, l := range got {
			told = append(told, text(l))
		}
		if len(got) != c.n || strings.Join(told, "|") != c.want {
			t.Error("columns", c, told)
		}
	}
}
