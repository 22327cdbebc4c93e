package floor

import "linoleum/api"

const maxWidth = 20

// Strips: see P8.2.
func Strips(r api.Room, width, offset int) ([]api.Strip, api.Errno) {
	if e := validateOffset(r, width, offset); e != api.OK {
		return nil, e
	}
	return strips(r, width, offset), api.OK
}

// Seams: see P8.2.
func Seams(r api.Room, width, offset int) ([]int, api.Errno) {
	if e := validateOffset(r, width, offset); e != api.OK {
		return nil, e
	}
	return seams(r, width, offset), api.OK
}

// InDoor: see P8.2.
func InDoor(r api.Room, width, offset int) (bool, api.Errno) {
	if e := validateOffset(r, width, offset); e != api.OK {
		return false, e
	}
	return inDoor(r, width, offset), api.OK
}

// BestOffset: see P8.3.
func BestOffset(r api.Room, width int) (offset, length int, found bool, e api.Errno) {
	if e := validateWidth(r, width); e != api.OK {
		return 0, 0, false, e
	}
	for o := range width {
		if inDoor(r, width, o) {
			continue
		}
		if sum := total(strips(r, width, o)); !found || sum < length {
			offset, length, found = o, sum, true
		}
	}
	return offset, length, found, api.OK
}

// Covers: see P8.3.
func Covers(r api.Room, width int, l []api.Strip) (bool, api.Errno) {
	if e := validateWidth(r, width); e != api.OK {
		return false, e
	}
	layers := pile(l, width)
	for x := range api.MaxSide {
		for y := range api.MaxSide {
			if has(r, x, y) && layers[x][y] != 1 {
				return false, api.OK
			}
		}
	}
	return true, api.OK
}

func isWidth(n int) bool {
	return isFrom(1, maxWidth, n)
}

func validateWidth(r api.Room, width int) api.Errno {
	if e := Validate(r); e != api.OK {
		return e
	}
	if !isWidth(width) {
		return api.ErrArg
	}
	return api.OK
}

func validateOffset(r api.Room, width, offset int) api.Errno {
	if e := validateWidth(r, width); e != api.OK {
		return e
	}
	if !isFrom(0, width-1, offset) {
		return api.ErrArg
	}
	return api.OK
}

func strips(r api.Room, width, offset int) []api.Strip {
	var list []api.Strip
	// The strip before the offset has the cells from 0 on that are left of it.
	for x := offset - width; x < api.MaxSide; x += width {
		if s, ok := strip(r, width, x); ok {
			list = append(list, s)
		}
	}
	return list
}

// strip returns the strip with a left border; false if it has no cell of the room.
func strip(r api.Room, width, x int) (api.Strip, bool) {
	s := api.Strip{X: x, From: api.MaxSide}
	for _, t := range r.Rects {
		if meet(across(s, width), columns(t)) {
			s.From, s.To = min(s.From, t.Y), max(s.To, t.Y+t.H)
		}
	}
	return s, s.From < s.To
}

// across returns the columns of the floor on which a strip lies.
func across(s api.Strip, width int) api.Span {
	return api.Span{From: s.X, To: s.X + width}
}

// along returns the heights of the floor on which a strip lies.
func along(s api.Strip) api.Span {
	return api.Span{From: s.From, To: s.To}
}

func total(list []api.Strip) int {
	sum := 0
	for _, s := range list {
		sum += s.To - s.From
	}
	return sum
}

func seams(r api.Room, width, offset int) []int {
	var list []int
	for _, s := range strips(r, width, offset) {
		if isSeam(r, s.X) {
			list = append(list, s.X)
		}
	}
	return list
}

// isSeam reports whether the left border x of a strip is a seam.
func isSeam(r api.Room, x int) bool {
	for y := range api.MaxSide {
		if joins(r, x, y) {
			return true
		}
	}
	return false
}

// joins reports whether the room has the cells on both sides of x at a height.
func joins(r api.Room, x, y int) bool {
	return has(r, x-1, y) && has(r, x, y)
}

func inDoor(r api.Room, width, offset int) bool {
	for _, x := range seams(r, width, offset) {
		for _, d := range r.Doors {
			if d.X1 < x && x < d.X2 && (joins(r, x, d.Y) || joins(r, x, d.Y-1)) {
				return true
			}
		}
	}
	return false
}

// pile returns how many of the strips, which may have any values, have each cell x, y of the largest room.
func pile(l []api.Strip, width int) [api.MaxSide][api.MaxSide]int {
	var layers [api.MaxSide][api.MaxSide]int
	for _, s := range l {
		wide, high := inside(across(s, width)), inside(along(s))
		for x := wide.From; x < wide.To; x++ {
			for y := high.From; y < high.To; y++ {
				layers[x][y]++
			}
		}
	}
	return layers
}

// inside returns the part of a span that lies in the largest room. If X + width of a strip is too large for an int, it lies below 0: then the part is empty, as it should be so far away.
func inside(s api.Span) api.Span {
	return api.Span{From: max(s.From, 0), To: min(s.To, api.MaxSide)}
}
