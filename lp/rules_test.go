package lp

import (
	"fmt"
	"slices"
	"strings"
	"testing"

	"escarpment/api"
	"escarpment/rat"
)

// roomyRow copies l, with room behind it that is kept in all.
func roomyRow(all *[][]api.Rat, l []api.Rat) []api.Rat {
	var copied []api.Rat
	for _, a := range l {
		a.P.L, a.Q.L = slices.Clone(a.P.L), slices.Clone(a.Q.L)
		copied = append(copied, a)
	}
	copied = append(copied, rat.Of(91), rat.Of(92))
	*all = append(*all, copied)
	return copied[:len(l)]
}

// TestNothingIsChanged: R3, R5: what is handed in stays, spare room too, and the same calls tell the same.
func TestNothingIsChanged(t *testing.T) {
	eachMade(58, 60, func(p api.LP, a api.Answer) {
		var all [][]api.Rat
		q := api.LP{N: p.N, B: roomyRow(&all, p.B), C: roomyRow(&all, p.C)}
		for _, l := range p.A {
			q.A = append(q.A, roomyRow(&all, l))
		}
		b := api.Answer{Kind: a.Kind, V: roomyRow(&all, []api.Rat{a.V})[0], X: roomyRow(&all, a.X), Y: roomyRow(&all, a.Y), Ray: roomyRow(&all, a.Ray)}
		before := fmt.Sprint(q, b, all)
		var told []string
		for range 2 {
			told = append(told, fmt.Sprint(Right(q), Within(q, b.X), Within(q, b.Ray), Holds(q, b)))
		}
		if fmt.Sprint(q, b, all) != before {
			t.Error("R3: what is handed in is changed", p, a)
		}
		if told[0] != told[1] || !strings.HasPrefix(told[0], "true") || !strings.HasSuffix(told[0], "true") {
			t.Error("R5: another answer", told)
		}
	})
}

func TestEach(t *testing.T) {
	var asked []string
	upTo := func(last string) func(int, string) bool {
		asked = nil
		return func(at int, s string) bool {
			asked = append(asked, fmt.Sprint(at, s))
			return s <= last
		}
	}
	for _, c := range []struct {
		l     []string
		last  string
		want  bool
		asked string
	}{{nil, "z", true, "[]"}, {[]string{"a", "b"}, "b", true, "[0a 1b]"}, {[]string{"a", "c", "b"}, "b", false, "[0a 1c]"}, {[]string{"a", "c"}, "b", false, "[0a 1c]"}} {
		if got := each(c.l, upTo(c.last)); got != c.want || fmt.Sprint(asked) != c.asked {
			t.Error("each", c, got, asked)
		}
	}
}
