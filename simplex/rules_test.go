package simplex

import (
	"fmt"
	"slices"
	"testing"

	"escarpment/api"
	"escarpment/rat"
)

// memory keeps all that is handed in, spare room too.
type memory struct {
	limbs [][]uint32
	lists [][]api.Rat
	all   [][][]api.Rat
}

func (m *memory) roomy(a api.Rat) api.Rat {
	p := append(slices.Clone(a.P.L), 77, 78)
	q := append(slices.Clone(a.Q.L), 87, 88)
	m.limbs = append(m.limbs, p, q)
	a.P.L, a.Q.L = p[:len(a.P.L)], q[:len(a.Q.L)]
	return a
}

func (m *memory) roomyRow(l []api.Rat) []api.Rat {
	var copied []api.Rat
	for _, a := range l {
		copied = append(copied, m.roomy(a))
	}
	all := append(copied, m.roomy(rat.Of(91)), m.roomy(rat.Of(92)))
	m.lists = append(m.lists, all)
	return all[:len(l)]
}

func (m *memory) roomyProblem(p api.LP) api.LP {
	var copied [][]api.Rat
	for _, r := range p.A {
		copied = append(copied, m.roomyRow(r))
	}
	all := append(copied, m.roomyRow(nil))
	m.all = append(m.all, all)
	return api.LP{N: p.N, A: all[:len(p.A)], B: m.roomyRow(p.B), C: m.roomyRow(p.C)}
}

// TestNewMemory: R3, R5: what is handed in stays, and whoever writes into an answer, its spare room too, changes nothing
// else that was told, nor what is told next.
func TestNewMemory(t *testing.T) {
	eachMade(69, 60, func(p api.LP, _ api.Answer) { newMemory(t, p) })
	for _, p := range []api.LP{problem("1 1", "1"), problem("1 1 0,-1 0 0", "1 0"), problem("0 -1", "0"), problem("0 1", "0"), problem("", "1"), problem("-1", ""), problem("1 18446744073709551616", "1"), {N: 1}, {N: 2, A: [][]api.Rat{row("1 1"), row("1")}, B: row("0 0"), C: row("0 0")}} {
		newMemory(t, p)
	}
}

func newMemory(t *testing.T, from api.LP) {
	t.Helper()
	var room memory
	p := room.roomyProblem(from)
	before := fmt.Sprint(room)
	a, pivots, e := Solve(p)
	first := fmt.Sprint(a, pivots, e)
	again := func() string {
		a, pivots, e := Solve(p)
		return fmt.Sprint(a, pivots, e)
	}
	if fmt.Sprint(room) != before {
		t.Fatal("R3: what is handed in is changed", from)
	}
	if again() != first {
		t.Fatal("R5: another answer", from)
	}
	for _, n := range slices.Concat([]api.Rat{a.V}, a.X, a.Y, a.Ray) {
		for _, limbs := range [][]uint32{n.P.L, n.Q.L} {
			spoil(limbs)
			if fmt.Sprint(room) != before || again() != first {
				t.Fatal("R3: what is told is kept, or was handed in", from)
			}
			spoil(limbs)
			if fmt.Sprint(a, pivots, e) != first {
				t.Fatal("R3: two lists of an answer share memory", from)
			}
		}
	}
	alone(t, a)
	for _, l := range [][]api.Rat{a.X, a.Y, a.Ray} {
		for i := range l[:cap(l)] {
			l[:cap(l)][i] = rat.Of(-93)
		}
	}
	if fmt.Sprint(room) != before || again() != first {
		t.Fatal("R3: a list that is told is kept, or was handed in", from)
	}
}

// spoil turns all bits of limbs, spare room too; a second time they are what they were.
func spoil(limbs []uint32) {
	all := limbs[:cap(limbs)]
	for i := range all {
		all[i] = ^all[i]
	}
}

// alone: no limbs of an answer, spare room too, are those of another number of it.
func alone(t *testing.T, a api.Answer) {
	t.Helper()
	owned := map[*uint32]bool{}
	for _, n := range slices.Concat([]api.Rat{a.V}, a.X, a.Y, a.Ray) {
		for _, limbs := range [][]uint32{n.P.L, n.Q.L} {
			all := limbs[:cap(limbs)]
			for i := range all {
				if owned[&all[i]] {
					t.Fatal("R3: two lists of an answer share memory", a)
				}
				owned[&all[i]] = true
			}
		}
	}
}

// TestPivotsIsNewMemory: R3, R5.
func TestPivotsIsNewMemory(t *testing.T) {
	for _, size := range [][2]int{{0, 0}, {1, 1}, {60, 60}, {-1, 99}} {
		n := Pivots(size[0], size[1])
		first := fmt.Sprint(n)
		spoil(n.L)
		if fmt.Sprint(Pivots(size[0], size[1])) != first {
			t.Error("R3: Pivots tells again what was told", size)
		}
	}
}

// TestOneListTwice: rows that are one list, handed in at several places, come to what rows of their own come to.
func TestOneListTwice(t *testing.T) {
	l := row("1 1")
	p := api.LP{N: 2, A: [][]api.Rat{l, l}, B: l, C: l}
	a, pivots := expectSolved(t, "R3", p)
	want, wanted := expectSolved(t, "R3", problem("1 1 1,1 1 1", "1 1"))
	if fmt.Sprint(a) != fmt.Sprint(want) || pivots != wanted || text(l) != "1 1" {
		t.Error("R3:", a, want, text(l))
	}
}
