package itv

import "jetsam/ast"

// Test tells all of the first one for which a comparison holds with some of
// the second one, and all of the second one for which it holds with some of
// the first one.
func Test(op int, a, b Itv) (Itv, Itv) {
	if Empty(a) || Empty(b) {
		return None(), None()
	}
	switch op {
	case ast.Eq:
		return Meet(a, b), Meet(a, b)
	case ast.Ne:
		return unlike(a, b), unlike(b, a)
	case ast.Lt:
		return under(a, b, 1)
	case ast.Le:
		return under(a, b, 0)
	case ast.Gt:
		y, x := under(b, a, 1)
		return x, y
	case ast.Ge:
		y, x := under(b, a, 0)
		return x, y
	}
	return None(), None()
}

// under: those for which the first number is under the second one by so much
// at least.
func under(a, b Itv, by int) (Itv, Itv) {
	return Of(a.Lo, min(a.Hi, b.Hi-by)), Of(max(b.Lo, a.Lo+by), b.Hi)
}

// unlike: only one number alone takes another one away, and from between the
// ends it takes nothing that an Itv could do without.
func unlike(a, b Itv) Itv {
	if b.Lo == b.Hi {
		switch b.Lo {
		case a.Lo:
			a.Lo++
		case a.Hi:
			a.Hi--
		}
	}
	return Of(a.Lo, a.Hi)
}
