package loft

import (
	"linoleum/api"
	"linoleum/band"
)

const (
	maxDrop     = 1000
	maxRate     = 100000 // of a hanging
	maxMarks    = 1000   // poles of a hanging
	maxHangings = 8
	maxRange    = 4000 // length of a band whose range of ripeness is asked for
)

// Hanging: see the chapter.
type Hanging struct {
	Drop, Shift, Days, Rate, Fall int
}

// ValidHanging: see P6.1.
func ValidHanging(h Hanging) bool {
	return isFrom(1, maxDrop, h.Drop) &&
		isFrom(0, 2*h.Drop-1, h.Shift) &&
		isFrom(0, api.MaxStay, h.Days) &&
		isFrom(0, maxRate, h.Rate) &&
		isFrom(0, h.Rate/h.Drop, h.Fall)
}

// Poles: see P6.1.
func Poles(length int, h Hanging) ([]int, api.Errno) {
	if !ValidHanging(h) || !isFrom(0, api.MaxLength, length) {
		return nil, api.ErrArg
	}
	var places []int
	for place := h.Shift; place < length; place += 2 * h.Drop {
		if len(places) == maxMarks {
			return nil, api.ErrLarge
		}
		places = append(places, place)
	}
	return places, api.OK
}

// Height: see P6.1.
func Height(h Hanging, place int) (int, api.Errno) {
	if !ValidHanging(h) || !isPlace(place) {
		return 0, api.ErrArg
	}
	return height(h, place), api.OK
}

// Ripeness: see P6.2.
func Ripeness(l []Hanging, place int) (int, api.Errno) {
	if e := validateHangings(l); e != api.OK {
		return 0, e
	}
	if !isPlace(place) {
		return 0, api.ErrArg
	}
	return ripeness(l, place), api.OK
}

// Range: see P6.2.
func Range(l []Hanging, length int) (least, most int, e api.Errno) {
	if e := validateHangings(l); e != api.OK {
		return 0, 0, e
	}
	if !isFrom(1, maxRange, length) {
		return 0, 0, api.ErrArg
	}
	least = ripeness(l, 0)
	most = least
	for place := range length {
		n := ripeness(l, place)
		least, most = min(least, n), max(most, n)
	}
	return least, most, api.OK
}

// Chalk: see P6.3.
func Chalk(b []api.Run, h Hanging) ([]api.Run, api.Errno) {
	length, e := band.Length(b)
	if e != api.OK {
		return nil, e
	}
	poles, e := Poles(length, h)
	if e != api.OK {
		return nil, e
	}
	// The band is joined from its beginning on: a beginning never has more runs than the whole. The band in which some poles are marked may have more, where a later mark joins runs.
	var out []api.Run
	from := 0
	for _, pole := range poles {
		piece, e := chalked(b, from, pole)
		if e != api.OK {
			return nil, e
		}
		if out, e = band.Join(out, piece); e != api.OK {
			return nil, e
		}
		from = pole + 1
	}
	rest, e := band.Slice(b, from, length)
	if e != api.OK {
		return nil, e
	}
	return band.Join(out, rest)
}

// chalked returns the places of a band from `from` to pole, the last one with its mark.
func chalked(b []api.Run, from, pole int) ([]api.Run, api.Errno) {
	piece, e := band.Slice(b, from, pole+1)
	if e != api.OK {
		return nil, e
	}
	return band.Flaw(piece, pole-from, pole-from+1, api.PoleMark)
}

func isPlace(n int) bool {
	return isFrom(0, api.MaxLength, n)
}

func validateHangings(l []Hanging) api.Errno {
	if len(l) > maxHangings {
		return api.ErrLarge
	}
	for _, h := range l {
		if !ValidHanging(h) {
			return api.ErrArg
		}
	}
	return api.OK
}

func height(h Hanging, place int) int {
	step := 2 * h.Drop // from pole to pole
	// Shift may be above the place, but never by a whole step.
	past := (place + step - h.Shift) % step
	return min(past, step-past)
}

func ripeness(l []Hanging, place int) int {
	sum := 0
	for _, h := range l {
		sum += h.Days * (h.Rate - h.Fall*height(h, place))
	}
	return sum
}
