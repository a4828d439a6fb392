package itv

import (
	"slices"

	"jetsam/api"
	"jetsam/ast"
)

// Do tells what an operation makes of all numbers of both, and which errors
// there may be.
func Do(kind int, a, b Itv) (Itv, Errs) {
	if Empty(a) || Empty(b) {
		return None(), Errs{}
	}
	switch kind {
	case ast.Add:
		return ofEnds(a, b, func(x, y int) int { return x + y })
	case ast.Sub:
		return ofEnds(a, b, func(x, y int) int { return x - y })
	case ast.Mul:
		return ofEnds(a, b, func(x, y int) int { return x * y })
	case ast.Div:
		return divided(a, b)
	case ast.Mod:
		return rest(a, b)
	}
	return None(), Errs{}
}

// Neg tells the numbers that are as far from nought, on the other side.
func Neg(a Itv) (Itv, Errs) {
	return Do(ast.Sub, Const(0), a)
}

// ofEnds tells what is made of the ends of both, which are not empty, from the
// least to the greatest number.
func ofEnds(a, b Itv, made func(x, y int) int) (Itv, Errs) {
	ends := []int{made(a.Lo, b.Lo), made(a.Lo, b.Hi), made(a.Hi, b.Lo), made(a.Hi, b.Hi)}
	lo, hi := slices.Min(ends), slices.Max(ends)
	return Of(lo, hi), Errs{Overflow: lo < api.MinInt || hi > api.MaxInt}
}

// divided goes by the divisors below 0 and by those above it, for only among
// numbers of one sign do the ends tell what is between.
func divided(a, b Itv) (Itv, Errs) {
	all, errs := None(), Errs{DivZero: Has(b, 0)}
	for _, part := range []Itv{Meet(b, Of(api.MinInt, -1)), Meet(b, Of(1, api.MaxInt))} {
		if Empty(part) {
			continue
		}
		made, wrong := ofEnds(a, part, func(x, y int) int { return x / y })
		all = Join(all, made)
		errs.Overflow = errs.Overflow || wrong.Overflow
	}
	return all, errs
}

// rest: it is nearer to 0 than the divisor, no farther than what is divided,
// and on that one's side.
func rest(a, b Itv) (Itv, Errs) {
	errs := Errs{DivZero: Has(b, 0)}
	if b == Const(0) {
		return None(), errs
	}
	if a.Lo == a.Hi && b.Lo == b.Hi {
		return Const(a.Lo % b.Lo), errs
	}
	most := max(-b.Lo, b.Hi) - 1
	return Of(max(-most, min(a.Lo, 0)), min(most, max(a.Hi, 0))), errs
}
