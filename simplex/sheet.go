package simplex

import (
	"escarpment/api"
	"escarpment/rat"
	"escarpment/vec"
)

// sheet is a problem in whole numbers, as a tableau begins with it.
type sheet struct {
	p api.LP
	// rows are N numbers and a bound each: those of p, turned where the bound was below nought; then C, its bound
	// nought; then the sum of those that are turned.
	rows [][]api.Rat
	// turned tells of each row of p whether it is.
	turned []bool
	// scales are what p's rows, and C, were multiplied by to become whole.
	scales []api.Rat
}

func sheetOf(p api.LP) sheet {
	s := sheet{p: p}
	sum := make([]api.Rat, p.N+1)
	for i, numbers := range p.A {
		row, scale := wholes(numbers, p.B[i])
		isBelow := rat.Cmp(p.B[i], api.Rat{}) < 0
		if isBelow {
			row = plus(make([]api.Rat, p.N+1), -1, row)
			sum = plus(sum, 1, row)
		}
		s.rows, s.turned, s.scales = append(s.rows, row), append(s.turned, isBelow), append(s.scales, scale)
	}
	goal, scale := wholes(p.C, api.Rat{})
	s.rows, s.scales = append(s.rows, goal, sum), append(s.scales, scale)
	return s
}

// wholes tells numbers and the bound behind them, all times the least number above nought that makes them whole, and
// that number.
func wholes(numbers []api.Rat, bound api.Rat) ([]api.Rat, api.Rat) {
	row := append(append([]api.Rat{}, numbers...), bound)
	scale := rat.Of(1)
	for _, a := range row {
		rest := api.Rat{P: rat.Mul(a, scale).Q, Q: rat.Of(1).P}
		scale = rat.Mul(scale, rest)
	}
	for k, a := range row {
		row[k] = rat.Mul(a, scale)
	}
	return row, scale
}

// plus tells a and t times b, which is as long.
func plus(a []api.Rat, t int64, b []api.Rat) []api.Rat {
	l, _ := vec.Plus(a, rat.Of(t), b)
	return l
}
