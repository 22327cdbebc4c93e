package floor

import (
	"cmp"
	"slices"

	"linoleum/api"
)

const minX = -20

// Job: see the chapter.
type Job struct {
	Strips []api.Strip
	Rolls  []api.Roll
	Repeat int
}

// ValidateJob: see P8.4.
func ValidateJob(j Job) api.Errno {
	if len(j.Strips) > api.MaxStrips || len(j.Rolls) > api.MaxRolls {
		return api.ErrLarge
	}
	for _, s := range j.Strips {
		if !isStrip(s) {
			return api.ErrArg
		}
	}
	for _, r := range j.Rolls {
		if !isRoll(r, j.Repeat) {
			return api.ErrArg
		}
	}
	if !isRepeat(j.Repeat) {
		return api.ErrArg
	}
	return api.OK
}

// Check: see P8.5.
func Check(j Job, cuts []api.Cut) api.Errno {
	if e := ValidateJob(j); e != api.OK {
		return e
	}
	for i, c := range cuts {
		if e := j.check(c, cuts[:i]); e != api.OK {
			return e
		}
	}
	// No two of the cuts have the same strip.
	if len(cuts) < len(j.Strips) {
		return api.ErrShort
	}
	return api.OK
}

// Used: see P8.5.
func Used(j Job, cuts []api.Cut) (int, api.Errno) {
	if e := Check(j, cuts); e != api.OK {
		return 0, e
	}
	count := 0
	for n := range j.Rolls {
		if len(cutsOf(cuts, n)) > 0 {
			count++
		}
	}
	return count, api.OK
}

// Next: see P8.6.
func Next(r api.Roll, repeat, at int, s api.Strip) (int, api.Errno) {
	if !isRoll(r, repeat) || !isStrip(s) || !isRepeat(repeat) || !isFrom(0, api.MaxCut, at) {
		return 0, api.ErrArg
	}
	return next(r, repeat, at, s), api.OK
}

// Offcuts: see P8.8.
func Offcuts(j Job, cuts []api.Cut) ([][]api.Span, api.Errno) {
	if e := Check(j, cuts); e != api.OK {
		return nil, e
	}
	var list [][]api.Span
	for n := range j.Rolls {
		list = append(list, j.offcuts(n, cuts))
	}
	return list, api.OK
}

func isStrip(s api.Strip) bool {
	return isFrom(minX, api.MaxSide, s.X) && 0 <= s.From && s.From < s.To && s.To <= api.MaxSide
}

func isRoll(r api.Roll, repeat int) bool {
	return isFrom(1, api.MaxCut, r.Length) && isFrom(0, repeat-1, r.Phase) && isFrom(0, api.MaxShade, r.Shade)
}

func isRepeat(n int) bool {
	return isFrom(1, api.MaxCells, n)
}

// check returns the error of a cut after earlier ones that have none.
func (j Job) check(c api.Cut, earlier []api.Cut) api.Errno {
	if !isFrom(0, len(j.Strips)-1, c.Strip) || !isFrom(0, len(j.Rolls)-1, c.Roll) {
		return api.ErrNone
	}
	if slices.ContainsFunc(earlier, func(o api.Cut) bool { return o.Strip == c.Strip }) {
		return api.ErrState
	}
	s, r := j.Strips[c.Strip], j.Rolls[c.Roll]
	if !isFrom(0, r.Length-(s.To-s.From), c.At) {
		return api.ErrFit
	}
	if next(r, j.Repeat, c.At, s) != c.At || len(earlier) > 0 && r.Shade != j.Rolls[earlier[0].Roll].Shade {
		return api.ErrMatch
	}
	if slices.ContainsFunc(earlier, func(o api.Cut) bool { return o.Roll == c.Roll && meet(j.places(o), j.places(c)) }) {
		return api.ErrOverlap
	}
	return api.OK
}

// places returns the places that a cut takes of its roll.
func (j Job) places(c api.Cut) api.Span {
	s := j.Strips[c.Strip]
	return api.Span{From: c.At, To: c.At + s.To - s.From}
}

// offcuts returns what is left of a roll.
func (j Job) offcuts(roll int, cuts []api.Cut) []api.Span {
	var list []api.Span
	from := 0
	for _, c := range cutsOf(cuts, roll) {
		taken := j.places(c)
		if from < taken.From {
			list = append(list, api.Span{From: from, To: taken.From})
		}
		from = taken.To
	}
	if end := j.Rolls[roll].Length; from < end {
		list = append(list, api.Span{From: from, To: end})
	}
	return list
}

// cutsOf returns the cuts of a roll in the order of their places.
func cutsOf(cuts []api.Cut, roll int) []api.Cut {
	var list []api.Cut
	for _, c := range cuts {
		if c.Roll == roll {
			list = append(list, c)
		}
	}
	slices.SortFunc(list, func(a, b api.Cut) int { return cmp.Compare(a.At, b.At) })
	return list
}
