package simplex

import (
	"fmt"
	"math/rand"
	"slices"
	"testing"

	"escarpment/api"
	"escarpment/rat"
)

// 6.1, 6.2: Bland's rule, and the tableau that it goes by.

// wordTableau tells p as a tableau of words.
func wordTableau(p api.LP) *tableau[word] {
	t, fits := tableauOf(sheetOf(p), wordOf)
	if !fits {
		panic("too great for words")
	}
	return t
}

func TestSheet(t *testing.T) {
	s := sheetOf(problem("1/2 1/3 5/6,2 -4 -6,0 0 0,3/7 0 -1/14", "1/9 0"))
	var rows []string
	for _, l := range s.rows {
		rows = append(rows, text(l))
	}
	want := []string{"3 2 5", "-2 4 6", "0 0 0", "-6 0 1", "1 0 0", "-8 4 7"}
	if !slices.Equal(rows, want) || text(s.scales) != "6 1 1 14 9" || !slices.Equal(s.turned, []bool{false, true, false, true}) {
		t.Error("sheet:", rows, text(s.scales), s.turned)
	}
}

func text(l []api.Rat) string {
	s := ""
	for i, a := range l {
		if i > 0 {
			s += " "
		}
		s += rat.Text(a)
	}
	return s
}

func TestTableau(t *testing.T) {
	got := wordTableau(problem("1 2 3,4 -5 -6", "7 -8"))
	want := tableau[word]{n: 2, over: 1, owners: []int{2, 5}, rows: [][]word{{1, 2, 1, 0, 3}, {-4, 5, 0, -1, 6}, {7, -8, 0, 0, 0}, {-4, 5, 0, -1, 6}}}
	if fmt.Sprint(*got) != fmt.Sprint(want) {
		t.Error("tableau:", *got, "want", want)
	}
}

// TestEnter: the first variable counts, not the steepest; only a number of x may go down.
func TestEnter(t *testing.T) {
	for _, c := range []struct {
		goal []word
		want step
	}{
		{[]word{0, 0, 0, 0, 9}, step{}}, {[]word{0, 0, 0, 0, -9}, step{}},
		{[]word{1, 9, 9, 9, 0}, step{0, 1}}, {[]word{-1, 9, 9, 9, 0}, step{0, -1}}, {[]word{0, 1, 9, 9, 0}, step{1, 1}}, {[]word{0, -1, 9, 9, 0}, step{1, -1}},
		{[]word{0, 0, 1, 9, 0}, step{2, 1}}, {[]word{0, 0, -1, 9, 0}, step{3, 1}}, {[]word{0, 0, -1, -9, 0}, step{}}, {[]word{0, 0, 0, 9, 0}, step{3, 1}},
	} {
		tab := &tableau[word]{n: 2, over: 1, owners: []int{2, 3}, rows: [][]word{{}, {}, c.goal}}
		if got := tab.enter(tab.gain()); got != c.want {
			t.Error("enter", c.goal, got, "want", c.want)
		}
	}
}

// TestLeave: the row that comes to nought first; of several that of the first owner; none that x owns.
func TestLeave(t *testing.T) {
	for i, c := range []struct {
		owners       []int
		cells, bound []word
		side, want   int
	}{
		{[]int{1, 2, 3}, []word{1, 1, 1}, []word{3, 2, 4}, 1, 1},
		{[]int{1, 2, 3}, []word{1, 2, 4}, []word{3, 5, 9}, 1, 2},
		{[]int{1, 2, 3}, []word{-1, -2, -4}, []word{3, 5, 9}, -1, 2},
		{[]int{1, 2, 3}, []word{1, 2, 4}, []word{3, 5, 9}, -1, -1},
		{[]int{1, 2, 3}, []word{-1, 0, -4}, []word{3, 5, 9}, 1, -1},
		{[]int{1, 2, 3}, []word{-1, 0, 4}, []word{3, 0, 9}, 1, 2},
		{[]int{2, 1, 3}, []word{1, 1, 1}, []word{2, 2, 2}, 1, 1},
		{[]int{3, 2, 1}, []word{1, 2, 3}, []word{2, 4, 6}, 1, 2},
		{[]int{3, 2, 1}, []word{-1, -2, -3}, []word{2, 4, 6}, -1, 2},
		{[]int{5, 2, 4}, []word{1, 2, 1}, []word{0, 0, 0}, 1, 1},
		{[]int{5, 6, 4}, []word{7, 2, 1}, []word{0, 0, 0}, 1, 2},
		{[]int{0, 2, 3}, []word{1, 1, 1}, []word{0, 5, 6}, 1, 1},
		{[]int{0, 2, 3}, []word{1, -1, 0}, []word{0, 5, 6}, 1, -1},
		{[]int{1, 2, 3}, []word{1 << 62, 1<<62 + 1, 1 << 61}, []word{1 << 62, 1 << 62, 1 << 62}, 1, 1},
	} {
		tab := &tableau[word]{n: 1, over: 1, owners: c.owners, rows: [][]word{{c.cells[0], 0, 0, 0, c.bound[0]}, {c.cells[1], 0, 0, 0, c.bound[1]}, {c.cells[2], 0, 0, 0, c.bound[2]}}}
		if got := tab.leave(step{0, c.side}); got != c.want {
			t.Error("leave, case", i, got, "want", c.want)
		}
	}
}

// TestOwnersNeverTwice: as long as a goal is climbed to, no rows' owners come twice, and no bound falls below nought but
// that of a number of x.
func TestOwnersNeverTwice(t *testing.T) {
	check := func(p api.LP) {
		tab, fits := tableauOf(sheetOf(p), largeOf)
		if !fits {
			t.Fatal("6.1: no tableau", p)
		}
		watch(t, p, tab, tab.lack())
		if tab.bound(tab.lack()).sign() > 0 {
			return
		}
		before := tab.pivots
		tab.dropLack()
		if tab.pivots-before > len(p.A) {
			t.Error("6.2: too many to let the lack go", p)
		}
		for _, owner := range tab.owners {
			if owner >= tab.n+len(tab.owners) {
				t.Error("6.1: a lack still owns a row", p, tab.owners)
			}
		}
		watch(t, p, tab, tab.gain())
	}
	eachMade(66, 60, func(p api.LP, _ api.Answer) { check(p) })
	for n := 1; n < 8; n++ {
		check(kleeMinty(n))
	}
	r := rand.New(rand.NewSource(67))
	for range 150 {
		n, count := 1+r.Intn(4), r.Intn(10)
		p := api.LP{N: n, C: randomRow(r, n, 2)}
		for range count {
			p.A, p.B = append(p.A, randomRow(r, n, 2)), append(p.B, rat.Of(int64(r.Intn(3)/2-r.Intn(3)/2)))
		}
		check(p)
	}
}

// watch climbs as climb does, and looks at each step.
func watch[T number[T]](t *testing.T, p api.LP, tab *tableau[T], goal int) {
	t.Helper()
	seen := map[string]bool{}
	for {
		owners := slices.Clone(tab.owners)
		slices.Sort(owners)
		if name := fmt.Sprint(owners); seen[name] {
			t.Fatal("6.2: the same owners twice", p, name)
		} else {
			seen[name] = true
		}
		for i, owner := range tab.owners {
			if owner >= tab.n && tab.bound(i).sign() < 0 {
				t.Fatal("6.1: below nought", p, i)
			}
		}
		s := tab.enter(goal)
		if s.side == 0 {
			return
		}
		row := tab.leave(s)
		if row < 0 {
			return
		}
		if !tab.pivot(row, s.column) {
			t.Fatal("6.1: does not fit", p)
		}
	}
}

// TestWordsAndLarge: words, where they are enough, lead to what numbers of any size lead to, by as many pivots.
func TestWordsAndLarge(t *testing.T) {
	seen := map[bool]int{}
	eachMade(68, 250, func(p api.LP, _ api.Answer) {
		short, shortPivots, fits := solved(sheetOf(p), wordOf)
		seen[fits]++
		long, longPivots, ok := solved(sheetOf(p), largeOf)
		if !ok {
			t.Error("6.1: large does not fit", p)
		}
		if fits && (fmt.Sprint(short) != fmt.Sprint(long) || shortPivots != longPivots) {
			t.Error("6.1: words lead elsewhere", p, short, long, shortPivots, longPivots)
		}
		if !fits && (fmt.Sprint(short) != fmt.Sprint(api.Answer{}) || shortPivots != 0) {
			t.Error("6.1: an answer beside a false", p, short)
		}
	})
	if seen[true] < 100 || seen[false] < 100 {
		t.Error("one side is hardly tried", seen)
	}
}

// runsOutAt tells where words are not enough for p.
func runsOutAt(p api.LP) string {
	tab, fits := tableauOf(sheetOf(p), wordOf)
	if !fits {
		return "the beginning"
	}
	if _, fits := tab.climb(tab.lack()); !fits {
		return "the lack"
	}
	tab.dropLack()
	if _, fits := tab.climb(tab.gain()); !fits {
		return "the gain"
	}
	return ""
}

// TestWordsRunOut: at the beginning, on the way to no lack, and on the way to the greatest gain.
func TestWordsRunOut(t *testing.T) {
	for _, c := range []struct {
		at string
		p  api.LP
	}{
		{"", problem("9223372036854775807 1", "1")},
		{"the beginning", problem("9223372036854775808 1", "1")},
		{"the beginning", problem("1 -9223372036854775808", "1")},
		{"the beginning", problem("1 1", "9223372036854775808")},
		{"", problem("-6000000000000000000 -1,6000000000000000000 1", "1")},
		{"the beginning", problem("-6000000000000000000 -1,-6000000000000000000 -1", "1")},
		{"", problem("1/3037000500 1/3037000499 1", "0 0")},
		{"the beginning", problem("1/3037000500 1/3037000501 1", "0 0")},
		{"the lack", problem("-5000000001 -7 -1,-3 -4000000007 -1", "0 0")},
		{"the gain", problem("5000000001 7 1,3 4000000007 1", "1 1")},
	} {
		a, pivots := expectSolved(t, "6.1: words run out at "+c.at, c.p)
		if at := runsOutAt(c.p); at != c.at {
			t.Errorf("words run out at %q, want %q: %v", at, c.at, c.p)
		}
		long, longPivots, _ := solved(sheetOf(c.p), largeOf)
		if fmt.Sprint(a) != fmt.Sprint(long) || pivots != longPivots {
			t.Error("6.1:", c.p, a, long)
		}
	}
}
