package rat

import (
	"fmt"
	"math/rand"
	"slices"
	"testing"

	"escarpment/api"
	"escarpment/num"
)

// told are the lists of a quotient, and of a whole number.
func told(l ...api.Rat) [][]uint32 {
	var lists [][]uint32
	for _, a := range l {
		lists = append(lists, a.P.L, a.Q.L)
	}
	return lists
}

// calls are all of the package, with the lists of what they tell.
func calls() map[string]func(a, b api.Rat) [][]uint32 {
	return map[string]func(a, b api.Rat) [][]uint32{
		"Of":    func(a, b api.Rat) [][]uint32 { return told(Of(7), Of(0), Of(1)) },
		"Quo":   func(a, b api.Rat) [][]uint32 { x, _ := Quo(a.P, b.P); y, _ := Quo(a.Q, a.Q); return told(x, y) },
		"Add":   func(a, b api.Rat) [][]uint32 { return told(Add(a, b)) },
		"Sub":   func(a, b api.Rat) [][]uint32 { return told(Sub(a, b)) },
		"Mul":   func(a, b api.Rat) [][]uint32 { return told(Mul(a, b)) },
		"Div":   func(a, b api.Rat) [][]uint32 { q, _ := Div(a, b); return told(q) },
		"Floor": func(a, b api.Rat) [][]uint32 { return [][]uint32{Floor(a).L, Floor(b).L} },
		"the others": func(a, b api.Rat) [][]uint32 {
			May(a)
			Cmp(a, b)
			x, _ := Read(Text(a))
			return told(x)
		},
	}
}

// roomy tells a with spare room behind all its limbs, and all of that memory.
func roomy(a api.Rat) (api.Rat, [][]uint32) {
	p := append(slices.Clone(a.P.L), 77, 78, 79)
	q := append(slices.Clone(a.Q.L), 87, 88, 89)
	return api.Rat{
		P: api.Int{Neg: a.P.Neg, L: p[:len(a.P.L)]},
		Q: api.Int{Neg: a.Q.Neg, L: q[:len(a.Q.L)]},
	}, [][]uint32{p, q}
}

// TestNewMemory: R3: what is handed in stays, and whoever writes into an answer, its spare room too, changes nothing else.
func TestNewMemory(t *testing.T) {
	l := append(append(noughts(), wrong()...), Of(1), Of(-1), Of(7))
	r := rand.New(rand.NewSource(3))
	for range 12 {
		l = append(l, random(r, 6), random(r, 150), api.Rat{P: random(r, 100).P, Q: num.Of(1)})
	}
	for name, call := range calls() {
		for _, x := range l {
			for _, y := range l {
				newMemory(t, name, call, x, y)
			}
		}
	}
}

func newMemory(t *testing.T, name string, call func(a, b api.Rat) [][]uint32, x, y api.Rat) {
	a, allOfA := roomy(x)
	b, allOfB := roomy(y)
	given := append(allOfA, allOfB...)
	kept := fmt.Sprint(given)
	answer := call(a, b)
	first := fmt.Sprint(answer)
	for i := range answer {
		all := answer[i][:cap(answer[i])]
		before := slices.Clone(all)
		for k := range all {
			all[k] = ^all[k]
		}
		if fmt.Sprint(given) != kept {
			t.Fatal("R3:", name, "changes or shares what is handed in", x, y)
		}
		again := call(a, b)
		if fmt.Sprint(again) != first {
			t.Fatal("R3:", name, "tells again what was told", x, y)
		}
		if fmt.Sprint(without(answer, i)) != fmt.Sprint(without(again, i)) {
			t.Fatal("R3:", name, "two lists of an answer share memory", x, y)
		}
		copy(all, before)
	}
	if fmt.Sprint(call(a, b)) != first {
		t.Error("R5:", name, "tells another", x, y)
	}
}

func without(lists [][]uint32, i int) [][]uint32 {
	return slices.Concat(lists[:i], lists[i+1:])
}
