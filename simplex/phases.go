package simplex

import (
	"escarpment/api"
	"escarpment/rat"
	"escarpment/vec"
)

// solved tells an answer to s, and how many pivots led to it, with numbers of T; false: they were not enough.
func solved[T number[T]](s sheet, of func(api.Rat) (T, bool)) (a api.Answer, pivots int, fits bool) {
	t, fits := tableauOf(s, of)
	if !fits {
		return api.Answer{}, 0, false
	}
	if _, fits = t.climb(t.lack()); !fits {
		return api.Answer{}, 0, false
	}
	if t.bound(t.lack()).sign() > 0 {
		return t.infeasible(s), t.pivots, true
	}
	t.dropLack()
	open, fits := t.climb(t.gain())
	switch {
	case !fits:
		return api.Answer{}, 0, false
	case open.side != 0:
		return t.unbounded(open), t.pivots, true
	}
	return t.optimal(s), t.pivots, true
}

// dropLack lets the lack go, which is nought by now, and gives the rows that artificials still own to their slacks.
func (t *tableau[T]) dropLack() {
	t.rows = t.rows[:t.lack()]
	for i, owner := range t.owners {
		if slack := owner - len(t.owners); slack >= t.n {
			// Fits always: no other row has anything of that slack, as it has nothing of the artificial.
			t.pivot(i, slack)
		}
	}
}

func (t *tableau[T]) optimal(s sheet) api.Answer {
	a := api.Answer{Kind: api.Optimal, X: t.point(), Y: t.weights(t.gain(), s)}
	a.V, _ = vec.Dot(s.p.C, a.X)
	for i := range a.Y {
		a.Y[i], _ = rat.Div(a.Y[i], s.scales[len(a.Y)])
	}
	return a
}

func (t *tableau[T]) infeasible(s sheet) api.Answer {
	return api.Answer{Kind: api.Infeasible, Y: t.weights(t.lack(), s)}
}

func (t *tableau[T]) unbounded(open step) api.Answer {
	return api.Answer{Kind: api.Unbounded, X: t.point(), Ray: t.ray(open)}
}

// weights tells how often each row of the problem was taken off the goal on the way: that is what its slack got.
func (t *tableau[T]) weights(goal int, s sheet) []api.Rat {
	y := make([]api.Rat, len(t.owners))
	for i := range y {
		taken := t.rows[goal][t.n+i].turned().quotient(t.over)
		y[i] = rat.Mul(taken, s.scales[i])
	}
	return y
}

// point tells x where all variables that own no row are nought.
func (t *tableau[T]) point() []api.Rat {
	return t.numbers(func(row int) T { return t.bound(row) })
}

// ray tells how x goes along a step.
func (t *tableau[T]) ray(open step) []api.Rat {
	l := t.numbers(func(row int) T {
		n := t.rows[row][open.column]
		if open.side > 0 {
			return n.turned()
		}
		return n
	})
	if open.column < t.n {
		l[open.column] = rat.Of(int64(open.side))
	}
	return l
}

// numbers tells of each number of x what of makes of its row, by over; nought, if it has none.
func (t *tableau[T]) numbers(of func(row int) T) []api.Rat {
	l := make([]api.Rat, t.n)
	for k := range l {
		l[k] = rat.Of(0)
	}
	for i, owner := range t.owners {
		if owner < t.n {
			l[owner] = of(i).quotient(t.over)
		}
	}
	return l
}
