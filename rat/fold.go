package rat

import (
	"escarpment/api"
	"escarpment/num"
)

// fold goes through l, and tells what begins as start once all of l has been joined to it, one after the other.
func fold[T, S any](l []T, start S, join func(so S, next T) S) S {
	so := start
	for _, next := range l {
		so = join(so, next)
	}
	return so
}

// sum tells the sum of first and all others, in its least form. Each has a denominator.
func sum(first api.Rat, others ...api.Rat) api.Rat {
	// Factors in common are looked for once, at the end: looking for them is dearer than a product.
	all := fold(others, first, sumOfTwo)
	return least(all.P, all.Q)
}

// sumOfTwo tells a + b over the product of their denominators, be it the least one or not.
func sumOfTwo(a, b api.Rat) api.Rat {
	return api.Rat{
		P: num.Add(num.Mul(a.P, b.Q), num.Mul(b.P, a.Q)),
		Q: num.Mul(a.Q, b.Q),
	}
}
