package zone

import "jetsam/api"

// Bound tells those of a zone's numbers where x is above y by so much at most;
// -1 is nought.
func Bound(z Zone, x, y, by int) Zone {
	if z.None || !isEnd(z, x) || !isEnd(z, y) {
		return z
	}
	return bounded(z, x+1, y+1, by)
}

// bounded: a new bound makes others less by the ways that lead over it.
func bounded(z Zone, i, j, by int) Zone {
	switch {
	case by >= z.D[i][j]:
		return z
	case by < -z.D[j][i]:
		return Zone{N: z.N, None: true}
	}
	near := z
	for from := range rows(z) {
		for to := range rows(z) {
			near.D[from][to] = min(z.D[from][to], z.D[from][i]+by+z.D[j][to])
		}
	}
	return near
}

// Forget tells all numbers that one of the zone's can be made by giving x
// another number.
func Forget(z Zone, x int) Zone {
	if z.None || !isVar(z, x) {
		return z
	}
	i := x + 1
	for j := range rows(z) {
		if j != i {
			z.D[i][j] = api.MaxInt + z.D[0][j]
			z.D[j][i] = z.D[j][0] - api.MinInt
		}
	}
	return z
}

// Copy tells a zone's numbers, with y's and by more for x's, as long as it is
// one that may be; y is -1: by itself.
func Copy(z Zone, x, y, by int) Zone {
	if z.None || !isVar(z, x) || !isEnd(z, y) {
		return z
	}
	if by > Far || by < -Far {
		return Zone{N: z.N, None: true}
	}
	z = Bound(z, y, -1, api.MaxInt-by)
	z = Bound(z, -1, y, by-api.MinInt)
	if x == y {
		return shifted(z, x+1, by)
	}
	z = Forget(z, x)
	z = Bound(z, x, y, by)
	return Bound(z, y, x, -by)
}

// shifted tells the same with by more for one number, which still may be.
func shifted(z Zone, i, by int) Zone {
	if z.None {
		return z
	}
	for j := range rows(z) {
		if j != i {
			z.D[i][j] += by
			z.D[j][i] -= by
		}
	}
	return z
}

// apart keeps the bounds with nought alone: any two variables are as far apart
// as these let them be.
func apart(z Zone) Zone {
	for i := 1; i < rows(z); i++ {
		for j := 1; j < rows(z); j++ {
			if i != j {
				z.D[i][j] = z.D[i][0] + z.D[0][j]
			}
		}
	}
	return z
}
