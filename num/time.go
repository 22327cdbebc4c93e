package num

import (
	"slices"

	"linoleum/api"
)

const (
	daysOfWeek   = 7
	minutesOfDay = 1440
	endOfTime    = api.MaxDay * minutesOfDay
)

// week has true for the weekdays of rest.
type week [daysOfWeek]bool

// hours is a valid calendar whose weekdays of rest are kept in an array.
type hours struct {
	start, end int
	rest       week
	holidays   []int
}

// Validate: see P1.7.
func Validate(c api.Calendar) api.Errno {
	switch {
	case c.Start < 0 || c.Start >= minutesOfDay || c.End <= c.Start || c.End > minutesOfDay:
		return api.ErrArg
	case !isSetBelow(c.Rest, daysOfWeek) || len(c.Rest) == daysOfWeek:
		return api.ErrArg
	case len(c.Holidays) > api.MaxHolidays:
		return api.ErrLarge
	case !isSetBelow(c.Holidays, api.MaxDay):
		return api.ErrArg
	}
	return api.OK
}

// IsOpen: see P1.8.
func IsOpen(c api.Calendar, day int) (bool, api.Errno) {
	if e := validateDay(c, day); e != api.OK {
		return false, e
	}
	return hoursOf(c).isOpen(day), api.OK
}

// NextOpen: see P1.8.
func NextOpen(c api.Calendar, day int) (int, api.Errno) {
	if e := validateDay(c, day); e != api.OK {
		return 0, e
	}
	h := hoursOf(c)
	for ; day < api.MaxDay; day++ {
		if h.isOpen(day) {
			return day, api.OK
		}
	}
	return 0, api.ErrLarge
}

// Working: see P1.9.
func Working(c api.Calendar, from, to int) (int, api.Errno) {
	if e := Validate(c); e != api.OK {
		return 0, e
	}
	if from < 0 || from > to || to > endOfTime {
		return 0, api.ErrArg
	}
	h := hoursOf(c)
	minutes := 0
	for day := from / minutesOfDay; day*minutesOfDay < to; day++ {
		opening, closing := h.of(day)
		minutes += max(0, min(closing, to)-max(opening, from))
	}
	return minutes, api.OK
}

// After: see P1.9.
func After(c api.Calendar, from, minutes int) (int, api.Errno) {
	if e := Validate(c); e != api.OK {
		return 0, e
	}
	if from < 0 || from > endOfTime || minutes < 0 {
		return 0, api.ErrArg
	}
	if minutes == 0 {
		return from, api.OK
	}
	h := hoursOf(c)
	for day := from / minutesOfDay; day < api.MaxDay; day++ {
		opening, closing := h.of(day)
		begin := max(opening, from)
		if minutes <= closing-begin {
			return begin + minutes, api.OK
		}
		minutes -= max(0, closing-begin)
	}
	return 0, api.ErrLarge
}

func validateDay(c api.Calendar, day int) api.Errno {
	if e := Validate(c); e != api.OK {
		return e
	}
	if day < 0 || day >= api.MaxDay {
		return api.ErrArg
	}
	return api.OK
}

// isSetBelow reports whether the list is a set of numbers from 0 to limit - 1.
func isSetBelow(list []int, limit int) bool {
	least := 0
	for _, n := range list {
		if n < least || n >= limit {
			return false
		}
		least = n + 1
	}
	return true
}

func hoursOf(c api.Calendar) hours {
	h := hours{start: c.Start, end: c.End, holidays: c.Holidays}
	for _, weekday := range c.Rest {
		h.rest[weekday] = true
	}
	return h
}

func (h hours) isOpen(day int) bool {
	_, holiday := slices.BinarySearch(h.holidays, day)
	return !holiday && !h.rest[day%daysOfWeek]
}

// of returns the first working minute of a day and the one after its last; on a closed day they are the same.
func (h hours) of(day int) (opening, closing int) {
	midnight := day * minutesOfDay
	if !h.isOpen(day) {
		return midnight, midnight
	}
	return midnight + h.start, midnight + h.end
}
