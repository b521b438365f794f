package simplex

import (
	"escarpment/api"
	"escarpment/rat"
)

// tableau has a row for each of a problem's: an equation in which its owner, a variable, stands alone of all owners.
// Behind them stand two goals, in the variables that own no row: the gain, C x, which is to be greatest; and the lack,
// how much artificials come to, which is to be nought, and stands there until it is.
//
// Variables are, in this order, the numbers of x, which may be below nought; a slack for each row, and an artificial for
// each row, which may not. An artificial has no column: it would be that of its row's slack, turned, and is not asked
// for, as an artificial that owns no row any more is let go.
type tableau[T number[T]] struct {
	n      int
	owners []int
	rows   [][]T
	// over is the last pivot: what all numbers of all rows are to be divided by. Like this, whole ones stay whole.
	over   T
	pivots int
}

// tableauOf tells s as a tableau; false: one of its numbers is none of T.
func tableauOf[T number[T]](s sheet, of func(api.Rat) (T, bool)) (*tableau[T], bool) {
	t := &tableau[T]{n: s.p.N, owners: make([]int, len(s.p.A))}
	for _, row := range s.rows {
		cells, fits := spread(row, len(t.owners), of)
		if !fits {
			return nil, false
		}
		t.rows = append(t.rows, cells)
	}
	// One is a number of any T.
	one, _ := of(rat.Of(1))
	t.over = one
	for i, turned := range s.turned {
		slack := t.n + i
		t.owners[i], t.rows[i][slack] = slack, one
		if turned {
			t.owners[i], t.rows[i][slack] = slack+len(t.owners), one.turned()
			t.rows[t.lack()][slack] = one.turned()
		}
	}
	return t, true
}

// spread tells a row with noughts for slacks between its numbers and its bound; false: one is none of T.
func spread[T number[T]](row []api.Rat, slacks int, of func(api.Rat) (T, bool)) ([]T, bool) {
	cells := make([]T, len(row)+slacks)
	var fits bool
	for k, a := range row {
		at := k
		if k == len(row)-1 {
			at += slacks
		}
		if cells[at], fits = of(a); !fits {
			return nil, false
		}
	}
	return cells, true
}

// gain and lack tell the places of the goals among the rows.
func (t *tableau[T]) gain() int { return len(t.owners) }
func (t *tableau[T]) lack() int { return len(t.owners) + 1 }

// bound tells what stands at the end of a row.
func (t *tableau[T]) bound(row int) T {
	return t.rows[row][t.n+len(t.owners)]
}

// step is a variable that owns no row, and the side that it is to go to: 1 up, -1 down; 0: there is none.
type step struct {
	column int
	side   int
}

// climb pivots by Bland's rule until no step makes the goal better, or nothing bounds the step that does, which it
// tells; false: a number on the way is none of T.
//
// It ends: a number of x that owns a row keeps it, so that each comes in once; an artificial does not come back; and
// among slacks always taking the first never leads to the same owners again.
func (t *tableau[T]) climb(goal int) (step, bool) {
	for {
		s := t.enter(goal)
		if s.side == 0 {
			return s, true
		}
		row := t.leave(s)
		if row < 0 {
			return s, true
		}
		if !t.pivot(row, s.column) {
			return step{}, false
		}
	}
}

// enter tells the first variable that makes the goal better.
func (t *tableau[T]) enter(goal int) step {
	cells := t.rows[goal]
	for k := range len(cells) - 1 {
		side := cells[k].sign()
		if side > 0 || side < 0 && k < t.n {
			return step{k, side}
		}
	}
	return step{}
}

// leave tells the row whose owner comes to nought first on that step, of several the one of the first owner; -1: none.
func (t *tableau[T]) leave(s step) int {
	first := -1
	for i, owner := range t.owners {
		if owner < t.n || t.rows[i][s.column].sign() != s.side {
			continue
		}
		if first < 0 || t.isAhead(i, first, s) {
			first = i
		}
	}
	return first
}

// isAhead tells whether row i's owner leaves rather than row j's; both fall on that step.
func (t *tableau[T]) isAhead(i, j int, s step) bool {
	a, b := t.rows[i][s.column], t.rows[j][s.column]
	order := t.bound(i).crossSign(b, t.bound(j), a) * s.side
	return order < 0 || order == 0 && t.owners[i] < t.owners[j]
}

// pivot makes the variable of that column the row's owner; false: a number is none of T.
func (t *tableau[T]) pivot(row, column int) bool {
	top := t.rows[row]
	if top[column].sign() < 0 {
		for k, n := range top {
			top[k] = n.turned()
		}
	}
	for i, cells := range t.rows {
		if i != row && !cleared(cells, top, column, t.over) {
			return false
		}
	}
	t.over, t.owners[row] = top[column], column
	t.pivots++
	return true
}

// cleared takes so much of top off cells that nought stands in the column, over top's number there rather than over
// the one before; false: a number is none of T.
func cleared[T number[T]](cells, top []T, column int, over T) bool {
	factor, pivot := cells[column], top[column]
	var fits bool
	for k, n := range cells {
		// Most of a tableau is nought, and stays so.
		if n.sign() == 0 && (factor.sign() == 0 || top[k].sign() == 0) {
			continue
		}
		if cells[k], fits = n.crossed(pivot, factor, top[k], over); !fits {
			return false
		}
	}
	return true
}
