package lp

import (
	"escarpment/api"
	"escarpment/rat"
	"escarpment/vec"
)

// look is one of the things that must be so of an answer to a problem that is right. Weights are an answer's Y.
type look func(p api.LP, a api.Answer) bool

func noPoint(_ api.LP, a api.Answer) bool   { return len(a.X) == 0 }
func noWeights(_ api.LP, a api.Answer) bool { return len(a.Y) == 0 }
func noRay(_ api.LP, a api.Answer) bool     { return len(a.Ray) == 0 }
func noV(_ api.LP, a api.Answer) bool       { return sign(a.V) == 0 }

func pointIsWithin(p api.LP, a api.Answer) bool {
	return Within(p, a.X)
}

func pointReachesV(p api.LP, a api.Answer) bool {
	reached, e := vec.Dot(p.C, a.X)
	return e == api.OK && rat.Cmp(reached, a.V) == 0
}

func weightsFit(p api.LP, a api.Answer) bool {
	return len(a.Y) == len(p.A) && each(a.Y, func(_ int, n api.Rat) bool { return sign(n) >= 0 })
}

func weightsMakeC(p api.LP, a api.Answer) bool {
	made, e := vec.Left(a.Y, p.A, p.N)
	return e == api.OK && each(made, func(at int, n api.Rat) bool { return rat.Cmp(n, p.C[at]) == 0 })
}

func weightsMakeNought(p api.LP, a api.Answer) bool {
	made, e := vec.Left(a.Y, p.A, p.N)
	return e == api.OK && each(made, func(_ int, n api.Rat) bool { return sign(n) == 0 })
}

func weightsBoundByV(p api.LP, a api.Answer) bool {
	bound, e := vec.Dot(a.Y, p.B)
	return e == api.OK && rat.Cmp(bound, a.V) == 0
}

func weightsBoundBelowNought(p api.LP, a api.Answer) bool {
	bound, e := vec.Dot(a.Y, p.B)
	return e == api.OK && sign(bound) < 0
}

// rayStaysWithin asks for the ray's length itself, as without rows any would fit.
func rayStaysWithin(p api.LP, a api.Answer) bool {
	slopes, e := vec.Times(p.A, a.Ray)
	return len(a.Ray) == p.N && e == api.OK && each(slopes, func(_ int, n api.Rat) bool { return sign(n) <= 0 })
}

func rayRises(p api.LP, a api.Answer) bool {
	slope, e := vec.Dot(p.C, a.Ray)
	return e == api.OK && sign(slope) > 0
}

// each tells whether is holds of each thing of l and its place; so it is where there is none.
func each[T any](l []T, is func(at int, thing T) bool) bool {
	for i, thing := range l {
		if !is(i, thing) {
			return false
		}
	}
	return true
}

// sign tells -1, 0, 1: a is below nought, nought, above it.
func sign(a api.Rat) int {
	return rat.Cmp(a, api.Rat{})
}
