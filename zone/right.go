package zone

import "jetsam/api"

// rows tells how many rows a zone's D has: nought's, and the variables'.
func rows(z Zone) int {
	return 1 + min(max(z.N, 0), api.MaxVars)
}

// isVar tells whether there is such a variable.
func isVar(z Zone, x int) bool {
	return x >= 0 && x < rows(z)-1
}

// isEnd tells whether there is such a variable, or it is nought.
func isEnd(z Zone, x int) bool {
	return x == -1 || isVar(z, x)
}

// boundsRight tells whether each bound is one that there may be by itself.
func boundsRight(z Zone) bool {
	for i, row := range z.D {
		for j, bound := range row {
			if !boundRight(z, i, j, bound) {
				return false
			}
		}
	}
	return true
}

func boundRight(z Zone, i, j, bound int) bool {
	switch {
	case i == j || i >= rows(z) || j >= rows(z):
		return bound == 0
	case j == 0 && bound > api.MaxInt || i == 0 && bound > -api.MinInt:
		return false
	}
	return bound > -Far && bound < Far
}

// isClosed tells whether no bound can be less by two others.
func isClosed(z Zone) bool {
	for i := range rows(z) {
		for j := range rows(z) {
			for by := range rows(z) {
				if z.D[i][j] > z.D[i][by]+z.D[by][j] {
					return false
				}
			}
		}
	}
	return true
}
