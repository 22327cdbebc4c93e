package pattern

import "linoleum/api"

// lattice has the basis (a, 0), (b, c), as a pattern does; a and c are above 0.
type lattice struct {
	a, b, c int
}

func latticeOf(p api.Pattern) lattice {
	return lattice{a: p.A, b: p.B, c: p.C}
}

// home returns the cell with y from 0 to c - 1 and x from 0 to a - 1 from which a vector of the lattice leads to x, y.
func (l lattice) home(x, y int) (hx, hy int) {
	q := quotient(y, l.c)
	return modulo(x-q*l.b, l.a), y - q*l.c
}

func (l lattice) has(dx, dy int) bool {
	hx, hy := l.home(dx, dy)
	return hx == 0 && hy == 0
}

// find returns the basis of the lattice of all vectors that has accepts; false if its repeat has more than most cells.
func find(most int, has func(dx, dy int) bool) (lattice, bool) {
	a := 1
	for !has(a, 0) {
		a++
		if a > most {
			return lattice{}, false
		}
	}
	for c := 1; a*c <= most; c++ {
		for b := range a {
			if has(b, c) {
				return lattice{a: a, b: b, c: c}, true
			}
		}
	}
	return lattice{}, false
}

// quotient rounds down; n is above 0.
func quotient(x, n int) int {
	return (x - modulo(x, n)) / n
}

// modulo returns a number from 0 to n - 1; n is above 0.
func modulo(x, n int) int {
	rest := x % n
	if rest < 0 {
		rest += n
	}
	return rest
}
