package vec

import "escarpment/api"

// mapped tells what do makes of each thing of l and its place, one after the other, in new memory.
func mapped[T, S any](l []T, do func(at int, thing T) S) []S {
	made := make([]S, len(l))
	for i, thing := range l {
		made[i] = do(i, thing)
	}
	return made
}

// columns tells the n columns of m, whose rows have n numbers each. They are for reckoning, not for telling, as their
// numbers share memory with m's.
func columns(m [][]api.Rat, n int) [][]api.Rat {
	all := make([][]api.Rat, n)
	for k := range all {
		all[k] = mapped(m, func(_ int, row []api.Rat) api.Rat { return row[k] })
	}
	return all
}

// areOfLength tells whether each row of m has n numbers; so it is where there are no rows.
func areOfLength(m [][]api.Rat, n int) bool {
	for _, row := range m {
		if len(row) != n {
			return false
		}
	}
	return true
}
