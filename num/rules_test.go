package num

import (
	"fmt"
	"math/rand"
	"slices"
	"testing"

	"escarpment/api"
)

// calls are all that take numbers and tell numbers.
func calls() map[string]func(a, b api.Int) []api.Int {
	return map[string]func(a, b api.Int) []api.Int{
		"Neg": func(a, b api.Int) []api.Int { return []api.Int{Neg(a), Neg(b)} },
		"Add": func(a, b api.Int) []api.Int { return []api.Int{Add(a, b)} },
		"Sub": func(a, b api.Int) []api.Int { return []api.Int{Sub(a, b)} },
		"Mul": func(a, b api.Int) []api.Int { return []api.Int{Mul(a, b)} },
		"Div": func(a, b api.Int) []api.Int { q, r, _ := Div(a, b); return []api.Int{q, r} },
		"Gcd": func(a, b api.Int) []api.Int { return []api.Int{Gcd(a, b)} },
		"the others": func(a, b api.Int) []api.Int {
			May(a)
			To(a)
			Cmp(a, b)
			Text(a)
			return nil
		},
	}
}

// roomy tells a with spare room behind its limbs, and all of that memory.
func roomy(a api.Int) (api.Int, []uint32) {
	all := append(slices.Clone(a.L), 77, 78, 79)
	return api.Int{Neg: a.Neg, L: all[:len(a.L)]}, all
}

// TestNewMemory: R3: what is handed in stays, and whoever writes into an answer, its spare room too, changes nothing else.
func TestNewMemory(t *testing.T) {
	r := rand.New(rand.NewSource(3))
	l := append(edges(), wrong()...)
	for range 60 {
		l = append(l, random(r, 6))
	}
	for name, call := range calls() {
		for _, x := range l {
			for _, y := range l {
				newMemory(t, name, call, x, y)
			}
		}
	}
}

func newMemory(t *testing.T, name string, call func(a, b api.Int) []api.Int, x, y api.Int) {
	a, allOfA := roomy(x)
	b, allOfB := roomy(y)
	keptA, keptB := slices.Clone(allOfA), slices.Clone(allOfB)
	answer := call(a, b)
	told := fmt.Sprint(answer)
	for i := range answer {
		kept := make([]api.Int, len(answer))
		copy(kept, answer)
		l := answer[i].L[:cap(answer[i].L)]
		old := slices.Clone(l)
		for k := range l {
			l[k] = ^l[k]
		}
		for k := range kept {
			if k != i && fmt.Sprint(kept[k]) != fmt.Sprint(call(a, b)[k]) {
				t.Error("R3:", name, "two lists of an answer share memory", x, y)
			}
		}
		if !slices.Equal(allOfA, keptA) || !slices.Equal(allOfB, keptB) {
			t.Fatal("R3:", name, "changes or shares what is handed in", x, y)
		}
		copy(l, old)
	}
	if again := fmt.Sprint(call(a, b)); again != told {
		t.Error("R5:", name, "tells another", x, y, told, again)
	}
}

func TestOneNumberTwice(t *testing.T) {
	for _, a := range edges() {
		if !isZero(Sub(a, a)) || Cmp(a, a) != 0 || !alike(Add(a, a), Mul(a, Of(2))) {
			t.Error("1.2: of one number twice", a)
		}
	}
}
