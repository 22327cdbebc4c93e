package pattern

import "linoleum/api"

// plane is a function of the plane that may have more cells than a pattern: has accepts the vectors of a lattice of its periods, of which a repeat has at most that many cells. It may have other periods, too.
type plane struct {
	cells int
	has   func(dx, dy int) bool
	color func(x, y int) int
}

func planeOf(p api.Pattern) plane {
	return plane{
		cells: len(p.Cells),
		has:   latticeOf(p).has,
		color: func(x, y int) int { return colorAt(p, x, y) },
	}
}

// draw returns the least pattern; ErrLarge if its repeat has more than MaxCells cells.
func draw(f plane) (api.Pattern, api.Errno) {
	known, _ := find(f.cells, f.has)
	// The colors of one repeat are read once, because they are compared for each vector that may be a period.
	repeat := paint(known, f.color)
	periods, ok := find(api.MaxCells, func(dx, dy int) bool {
		return isMoved(repeat, repeat, dx, dy)
	})
	if !ok {
		return api.Pattern{}, api.ErrLarge
	}
	return paint(periods, f.color), api.OK
}

// paint returns a pattern of any number of cells.
func paint(l lattice, color func(x, y int) int) api.Pattern {
	p := api.Pattern{A: l.a, B: l.b, C: l.c}
	for y := range l.c {
		for x := range l.a {
			p.Cells = append(p.Cells, color(x, y))
		}
	}
	return p
}
