package ext

import (
	"fmt"
	"math/rand"
	"slices"
	"testing"

	"escarpment/api"
)

// lists are the lists of an answer.
func lists(a api.Ext) [][]uint32 {
	return [][]uint32{a.V.P.L, a.V.Q.L}
}

// calls are all of the package, with what they tell.
func calls() map[string]func(a, b api.Ext) api.Ext {
	return map[string]func(a, b api.Ext) api.Ext{
		"Of":  func(a, b api.Ext) api.Ext { return Of(a.V) },
		"Max": Max,
		"Min": Min,
		"Add": func(a, b api.Ext) api.Ext { return Add(a, b.V) },
		"the others": func(a, b api.Ext) api.Ext {
			May(a)
			Cmp(a, b)
			Text(a)
			return api.Ext{}
		},
	}
}

// roomy tells a with spare room behind all its limbs, and all of that memory.
func roomy(a api.Ext) (api.Ext, [][]uint32) {
	p := append(slices.Clone(a.V.P.L), 77, 78, 79)
	q := append(slices.Clone(a.V.Q.L), 87, 88, 89)
	a.V.P.L, a.V.Q.L = p[:len(a.V.P.L)], q[:len(a.V.Q.L)]
	return a, [][]uint32{p, q}
}

// TestNewMemory: R3: what is handed in stays, and whoever writes into an answer, its spare room too, changes nothing else.
func TestNewMemory(t *testing.T) {
	l := append(rising(), noughts()...)
	l = append(append(l, ends(-1)...), ends(1)...)
	for i, a := range wrong() {
		if i%7 == 0 {
			l = append(l, a)
		}
	}
	r := rand.New(rand.NewSource(35))
	for range 10 {
		l = append(l, randomExt(r, 6), randomExt(r, 150))
	}
	for name, call := range calls() {
		for _, x := range l {
			for _, y := range l {
				newMemory(t, name, call, x, y)
			}
		}
	}
}

func newMemory(t *testing.T, name string, call func(a, b api.Ext) api.Ext, x, y api.Ext) {
	a, allOfA := roomy(x)
	b, allOfB := roomy(y)
	given := append(allOfA, allOfB...)
	kept := fmt.Sprint(given)
	answer := call(a, b)
	first := fmt.Sprint(answer)
	for i, list := range lists(answer) {
		all := list[:cap(list)]
		before := slices.Clone(all)
		for k := range all {
			all[k] = ^all[k]
		}
		if fmt.Sprint(given) != kept {
			t.Fatal("R3:", name, "changes or shares what is handed in", x, y)
		}
		again := call(a, b)
		if fmt.Sprint(again) != first {
			t.Fatal("R3:", name, "tells again what was told", x, y)
		}
		if fmt.Sprint(lists(answer)[1-i]) != fmt.Sprint(lists(again)[1-i]) {
			t.Fatal("R3:", name, "two lists of an answer share memory", x, y)
		}
		copy(all, before)
	}
	if fmt.Sprint(call(a, b)) != first {
		t.Error("R5:", name, "tells another", x, y)
	}
}

// TestToldEndHasNoRoom: an end that is told holds none of what was handed in, not even spare room behind an empty list.
func TestToldEndHasNoRoom(t *testing.T) {
	for _, kind := range []int{-1, 1} {
		for _, end := range ends(kind) {
			a, _ := roomy(end)
			for name, got := range map[string]api.Ext{"Max": Max(a, a), "Min": Min(a, a), "Add": Add(a, quo(1, 2))} {
				if got.Kind != kind || cap(got.V.P.L) != 0 || cap(got.V.Q.L) != 0 {
					t.Error("R3:", name, "of an end", got)
				}
			}
		}
	}
}
