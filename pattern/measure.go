package pattern

import (
	"linoleum/api"
	"linoleum/num"
)

// Share: see P5.4.
func Share(p api.Pattern, color int) (api.Rat, api.Errno) {
	if e := Validate(p); e != api.OK {
		return api.Rat{}, e
	}
	if !isColor(color) {
		return api.Rat{}, api.ErrArg
	}
	count := 0
	for _, c := range p.Cells {
		if c == color {
			count++
		}
	}
	return num.Make(count, len(p.Cells))
}

// Walls: see P5.4.
func Walls(p api.Pattern) (api.Rat, api.Errno) {
	if e := Validate(p); e != api.OK {
		return api.Rat{}, e
	}
	count := 0
	for y := range p.C {
		for x := range p.A {
			color := colorAt(p, x, y)
			if color != colorAt(p, x+1, y) {
				count++
			}
			if color != colorAt(p, x, y+1) {
				count++
			}
		}
	}
	return num.Make(count, len(p.Cells))
}

// Align: see P5.5.
func Align(a, b api.Pattern) (dx, dy int, found bool, e api.Errno) {
	if e := validateBoth(a, b); e != api.OK {
		return 0, 0, false, e
	}
	from, to := least(a), least(b)
	// A shift changes no period.
	if latticeOf(from) != latticeOf(to) {
		return 0, 0, false, api.OK
	}
	for dy := range from.C {
		for dx := range from.A {
			if isMoved(to, from, -dx, -dy) {
				return dx, dy, true, api.OK
			}
		}
	}
	return 0, 0, false, api.OK
}

// Drum: see P5.6.
func Drum(p api.Pattern) (around, across int, e api.Errno) {
	if e := Validate(p); e != api.OK {
		return 0, 0, e
	}
	repeat := least(p)
	// As often as the fraction's denominator says, B is a multiple of A: that many rows of repeats end straight above their beginning.
	rows, _ := num.Make(repeat.B, repeat.A)
	return repeat.C * rows.Den, repeat.A, api.OK
}
