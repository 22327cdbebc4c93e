package pattern

import "linoleum/api"

const maxTimes = 12

// Shift: see P5.3.
func Shift(p api.Pattern, dx, dy int) (api.Pattern, api.Errno) {
	if e := validatePlace(p, dx, dy); e != api.OK {
		return api.Pattern{}, e
	}
	f := planeOf(p)
	f.color = func(x, y int) int { return colorAt(p, x-dx, y-dy) }
	return draw(f)
}

// Turn: see P5.3.
func Turn(p api.Pattern) (api.Pattern, api.Errno) {
	return seen(p, func(x, y int) (int, int) { return y, -x })
}

// Mirror: see P5.3.
func Mirror(p api.Pattern) (api.Pattern, api.Errno) {
	return seen(p, func(x, y int) (int, int) { return -x, y })
}

// Recolor: see P5.3.
func Recolor(p api.Pattern, colors []int) (api.Pattern, api.Errno) {
	if e := Validate(p); e != api.OK {
		return api.Pattern{}, e
	}
	if len(colors) != api.MaxColors || !areColors(colors) {
		return api.Pattern{}, api.ErrArg
	}
	f := planeOf(p)
	f.color = func(x, y int) int { return colors[colorAt(p, x, y)] }
	return draw(f)
}

// Over: see P5.3.
func Over(a, b api.Pattern) (api.Pattern, api.Errno) {
	if e := validateBoth(a, b); e != api.OK {
		return api.Pattern{}, e
	}
	top, bottom := planeOf(a), planeOf(b)
	return draw(plane{
		cells: top.cells * bottom.cells,
		has: func(dx, dy int) bool {
			return top.has(dx, dy) && bottom.has(dx, dy)
		},
		color: func(x, y int) int {
			if color := top.color(x, y); color != 0 {
				return color
			}
			return bottom.color(x, y)
		},
	})
}

// Swell: see P5.3.
func Swell(p api.Pattern, times int) (api.Pattern, api.Errno) {
	if e := Validate(p); e != api.OK {
		return api.Pattern{}, e
	}
	if !isFrom(1, maxTimes, times) {
		return api.Pattern{}, api.ErrArg
	}
	f := planeOf(p)
	return draw(plane{
		cells: f.cells * times * times,
		has: func(dx, dy int) bool {
			return dx%times == 0 && dy%times == 0 && f.has(dx/times, dy/times)
		},
		color: func(x, y int) int {
			return f.color(quotient(x, times), quotient(y, times))
		},
	})
}

// seen returns the pattern whose cell x, y has the color of the cell from(x, y) of p. As from is linear and keeps areas, it leads periods to periods, and a repeat has as many cells as before.
func seen(p api.Pattern, from func(x, y int) (int, int)) (api.Pattern, api.Errno) {
	if e := Validate(p); e != api.OK {
		return api.Pattern{}, e
	}
	f := planeOf(p)
	return draw(plane{
		cells: f.cells,
		has:   func(dx, dy int) bool { return f.has(from(dx, dy)) },
		color: func(x, y int) int { return f.color(from(x, y)) },
	})
}
