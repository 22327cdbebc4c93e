package band

import (
	"slices"

	"linoleum/api"
)

// Slice: see P2.3.
func Slice(b []api.Run, from, to int) ([]api.Run, api.Errno) {
	if e := validateSpan(b, from, to); e != api.OK {
		return nil, e
	}
	return normal(part(b, from, to)), api.OK
}

// Join: see P2.3.
func Join(a, b []api.Run) ([]api.Run, api.Errno) {
	if e := validateBoth(a, b); e != api.OK {
		return nil, e
	}
	return checked(slices.Concat(a, b))
}

// Reverse: see P2.3.
func Reverse(b []api.Run) ([]api.Run, api.Errno) {
	if e := Validate(b); e != api.OK {
		return nil, e
	}
	out := normal(b)
	slices.Reverse(out)
	return out, api.OK
}

// Flaw: see P2.4.
func Flaw(b []api.Run, from, to, flaw int) ([]api.Run, api.Errno) {
	if e := validateSpan(b, from, to); e != api.OK {
		return nil, e
	}
	if flaw < 0 || flaw > api.MaxFlaw {
		return nil, api.ErrArg
	}
	return changed(b, from, to, func(m api.Mark) api.Mark {
		m.Flaw |= flaw
		return m
	})
}

// Press: see P2.4.
func Press(b []api.Run, from, to, thick int) ([]api.Run, api.Errno) {
	if e := validateSpan(b, from, to); e != api.OK {
		return nil, e
	}
	if thick < 1 || thick > api.MaxThick {
		return nil, api.ErrArg
	}
	return changed(b, from, to, func(m api.Mark) api.Mark {
		m.Thick = min(m.Thick, thick)
		return m
	})
}

// Over: see P2.4.
func Over(b []api.Run, from int, patch []api.Run) ([]api.Run, api.Errno) {
	if e := validateBoth(b, patch); e != api.OK {
		return nil, e
	}
	// The lengths are subtracted because from plus a length may not be an int.
	if from < 0 || from > length(b)-length(patch) {
		return nil, api.ErrArg
	}
	return replaced(b, from, patch)
}

func validateSpan(b []api.Run, from, to int) api.Errno {
	if e := Validate(b); e != api.OK {
		return e
	}
	if from < 0 || from > to || to > length(b) {
		return api.ErrArg
	}
	return api.OK
}

// part returns the places from `from` to `to` - 1 of b, not in normal form.
func part(b []api.Run, from, to int) []api.Run {
	var out []api.Run
	for span, mark := range marks(b) {
		if common := min(span.To, to) - max(span.From, from); common > 0 {
			out = append(out, api.Run{Length: common, Mark: mark})
		}
	}
	return out
}

// changed returns b with other marks at the places from `from` to `to` - 1.
func changed(b []api.Run, from, to int, change func(api.Mark) api.Mark) ([]api.Run, api.Errno) {
	patch := part(b, from, to)
	for i := range patch {
		patch[i].Mark = change(patch[i].Mark)
	}
	return replaced(b, from, patch)
}

// replaced returns b with the places from `from` on replaced by those of a patch that fits.
func replaced(b []api.Run, from int, patch []api.Run) ([]api.Run, api.Errno) {
	before := part(b, 0, from)
	after := part(b, from+length(patch), length(b))
	return checked(slices.Concat(before, patch, after))
}

// checked returns the normal form of a result, unless it is too large (P2.1).
func checked(b []api.Run) ([]api.Run, api.Errno) {
	out := normal(b)
	if len(out) > api.MaxRuns || length(out) > api.MaxLength {
		return nil, api.ErrLarge
	}
	return out, api.OK
}
