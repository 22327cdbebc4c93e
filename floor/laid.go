package floor

import (
	"slices"

	"linoleum/api"
	"linoleum/pattern"
)

// Laid: see P8.9.
func Laid(p api.Pattern, width int, j Job, cuts []api.Cut, x, y int) (int, api.Errno) {
	if e := validateLaid(p, width, j, cuts); e != api.OK {
		return 0, e
	}
	n := slices.IndexFunc(j.Strips, func(s api.Strip) bool { return holds(across(s, width), x) && holds(along(s), y) })
	if n < 0 {
		return 0, api.ErrNone
	}
	s := j.Strips[n]
	// Check has found a cut for each strip.
	c := cuts[slices.IndexFunc(cuts, func(c api.Cut) bool { return c.Strip == n })]
	phase := (j.Rolls[c.Roll].Phase + c.At + y - s.From) % j.Repeat
	return pattern.At(p, x-s.X, phase)
}

// validateLaid returns the errors of Laid before ErrNone.
func validateLaid(p api.Pattern, width int, j Job, cuts []api.Cut) api.Errno {
	high, wide, e := pattern.Drum(p)
	if e != api.OK {
		return e
	}
	if e := ValidateJob(j); e != api.OK {
		return e
	}
	if !isWidth(width) {
		return api.ErrArg
	}
	if width%wide != 0 || j.Repeat%high != 0 {
		return api.ErrMatch
	}
	return Check(j, cuts)
}
