package vec

import (
	"fmt"
	"math/rand"
	"slices"
	"testing"

	"escarpment/api"
	"escarpment/rat"
)

// given is what one round of calls is handed: a, b and x are of one length with m's rows, y has as many as m has rows.
type given struct {
	a, b, x, y []api.Rat
	t          api.Rat
	m          [][]api.Rat
}

// calls are all of the package, with the row that they tell.
func calls() map[string]func(g given) []api.Rat {
	return map[string]func(g given) []api.Rat{
		"Dot":   func(g given) []api.Rat { d, _ := Dot(g.a, g.b); return []api.Rat{d} },
		"Plus":  func(g given) []api.Rat { l, _ := Plus(g.a, g.t, g.b); return l },
		"Times": func(g given) []api.Rat { l, _ := Times(g.m, g.x); return l },
		"Left":  func(g given) []api.Rat { l, _ := Left(g.y, g.m, len(g.a)); return l },
		"those that do not fit": func(g given) []api.Rat {
			longer := append(slices.Clone(g.a), rat.Of(1))
			Dot(longer, g.b)
			Plus(g.a, g.t, longer)
			Times(append(slices.Clone(g.m), longer), g.x)
			l, _ := Left(g.y, g.m, len(longer)+1001)
			return l
		},
	}
}

// memory keeps all that is handed in, spare room too.
type memory struct {
	limbs [][]uint32
	lists [][]api.Rat
	all   [][][]api.Rat
}

func (m *memory) roomy(a api.Rat) api.Rat {
	p := append(slices.Clone(a.P.L), 77, 78)
	q := append(slices.Clone(a.Q.L), 87, 88)
	m.limbs = append(m.limbs, p, q)
	a.P.L, a.Q.L = p[:len(a.P.L)], q[:len(a.Q.L)]
	return a
}

func (m *memory) roomyRow(l []api.Rat) []api.Rat {
	var copied []api.Rat
	for _, a := range l {
		copied = append(copied, m.roomy(a))
	}
	all := append(copied, m.roomy(rat.Of(91)), m.roomy(rat.Of(92)))
	m.lists = append(m.lists, all)
	return all[:len(l)]
}

func (m *memory) roomyRows(l [][]api.Rat) [][]api.Rat {
	var copied [][]api.Rat
	for _, r := range l {
		copied = append(copied, m.roomyRow(r))
	}
	all := append(copied, m.roomyRow(nil))
	m.all = append(m.all, all)
	return all[:len(l)]
}

func (m *memory) roomyAll(g given) given {
	return given{
		a: m.roomyRow(g.a), b: m.roomyRow(g.b), x: m.roomyRow(g.x), y: m.roomyRow(g.y), t: m.roomy(g.t),
		m: m.roomyRows(g.m),
	}
}

// TestNewMemory: R3: what is handed in stays, and whoever writes into an answer, its spare room too, changes nothing else.
func TestNewMemory(t *testing.T) {
	r := rand.New(rand.NewSource(45))
	for i := range 120 {
		n, count, bits := i%5, i/5%4, 2+r.Intn(120)
		g := given{
			a: randomRow(r, n, bits), b: randomRow(r, n, bits), x: randomRow(r, n, bits), y: randomRow(r, count, bits),
			t: random(r, bits), m: randomRows(r, count, n, bits),
		}
		if i%3 == 0 {
			// Ones and noughts leave numbers as they are: there an answer might be what was handed in.
			g.t, g.y = rat.Of(int64(i/3%2)), slices.Repeat(row("1"), count)
			g.b, g.x = slices.Repeat(row("0"), n), slices.Repeat(row("1"), n)
		}
		if i%7 == 0 {
			g.a, g.x = slices.Repeat(wrong()[i%5:i%5+1], n), make([]api.Rat, n)
		}
		for name, call := range calls() {
			newMemory(t, name, call, g)
		}
	}
}

func newMemory(t *testing.T, name string, call func(g given) []api.Rat, from given) {
	t.Helper()
	var room memory
	g := room.roomyAll(from)
	before := fmt.Sprint(room)
	answer := call(g)
	first := fmt.Sprint(answer)
	if fmt.Sprint(room) != before {
		t.Fatal("R3:", name, "changes what is handed in", from)
	}
	for i := range answer {
		for _, limbs := range [][]uint32{answer[i].P.L, answer[i].Q.L} {
			spoilt(limbs, func() {
				if fmt.Sprint(room) != before {
					t.Fatal("R3:", name, "shares what is handed in", from)
				}
				if fmt.Sprint(call(g)) != first {
					t.Fatal("R3:", name, "tells again what was told", from)
				}
				otherLists(t, name, answer, limbs, first)
			})
		}
	}
	all := answer[:cap(answer)]
	for i := range all {
		all[i] = rat.Of(-93)
	}
	if fmt.Sprint(room) != before {
		t.Fatal("R3:", name, "tells a list that was handed in", from)
	}
	if fmt.Sprint(call(g)) != first {
		t.Error("R5:", name, "tells another", from)
	}
}

// spoilt turns all bits of limbs, spare room too, while do looks.
func spoilt(limbs []uint32, do func()) {
	all := limbs[:cap(limbs)]
	for i := range all {
		all[i] = ^all[i]
	}
	do()
	for i := range all {
		all[i] = ^all[i]
	}
}

// otherLists: with limbs, which are spoilt, mended in a copy, the answer is what it was: no other list is spoilt.
func otherLists(t *testing.T, name string, answer []api.Rat, limbs []uint32, first string) {
	t.Helper()
	mended := slices.Clone(answer)
	for i := range mended {
		for _, part := range []*api.Int{&mended[i].P, &mended[i].Q} {
			if len(limbs) > 0 && len(part.L) > 0 && &part.L[0] == &limbs[0] {
				part.L = slices.Clone(part.L)
				for k := range part.L {
					part.L[k] = ^part.L[k]
				}
				limbs = nil
			}
		}
	}
	if fmt.Sprint(mended) != first {
		t.Fatal("R3:", name, "two lists of an answer share memory", answer)
	}
}

// TestOneRowTwice: rows that are one list, handed in at several places, tell what rows of their own tell.
func TestOneRowTwice(t *testing.T) {
	l := row("1/2 -3 5/7")
	agrees(t, l, l, l, l, l[1], [][]api.Rat{l, l, l})
	if text(l) != "1/2 -3 5/7" {
		t.Error("R3: changed", text(l))
	}
}

// TestNewMemoryOfUnits: noughts and ones leave a number as it is, on either side: there, too, it is told in new memory.
func TestNewMemoryOfUnits(t *testing.T) {
	numbers := append(row("0 1 -1 5/3 18446744073709551617/2"), api.Rat{})
	for _, one := range numbers {
		for _, other := range numbers {
			for _, unit := range row("0 1") {
				g := given{a: []api.Rat{one}, b: []api.Rat{other}, x: []api.Rat{one}, y: []api.Rat{other}, t: unit, m: [][]api.Rat{{unit}}}
				for name, call := range calls() {
					newMemory(t, name, call, g)
					newMemory(t, name, call, given{a: g.b, b: g.a, x: []api.Rat{unit}, y: []api.Rat{unit}, t: one, m: [][]api.Rat{{other}}})
				}
			}
		}
	}
}
