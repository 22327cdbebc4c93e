package floor

import "linoleum/api"

// finders has a function for each kind of goods, which finds the smallest place of a roll, not below at, at which a strip can begin by its phase.
type finders struct {
	plain, patterned func(r api.Roll, repeat, at int, s api.Strip) int
}

func newFinders() finders {
	return finders{
		plain: func(_ api.Roll, _, at int, _ api.Strip) int { return at },
		patterned: func(r api.Roll, repeat, at int, s api.Strip) int {
			return at + modulo(s.From-r.Phase-at, repeat)
		},
	}
}

// next is Next for valid arguments, and a place of any size.
func next(r api.Roll, repeat, at int, s api.Strip) int {
	if repeat == 1 {
		return newFinders().plain(r, repeat, at, s)
	}
	return newFinders().patterned(r, repeat, at, s)
}

// modulo returns a number from 0 to n - 1; n is above 0.
func modulo(x, n int) int {
	rest := x % n
	if rest < 0 {
		rest += n
	}
	return rest
}
