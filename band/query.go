package band

import (
	"slices"

	"linoleum/api"
)

const anyShade = -1

// Holds: see P2.5.
func Holds(q api.Query, m api.Mark) bool {
	return m.Thick >= q.Least && m.Thick <= q.Most &&
		(q.Shade == anyShade || q.Shade == m.Shade) &&
		m.Flaw&^q.Flaws == 0
}

// Where: see P2.5.
func Where(b []api.Run, q api.Query) ([]api.Span, api.Errno) {
	if e := Validate(b); e != api.OK {
		return nil, e
	}
	return spans(b, q), api.OK
}

// Count: see P2.5.
func Count(b []api.Run, q api.Query) (int, api.Errno) {
	if e := Validate(b); e != api.OK {
		return 0, e
	}
	count := 0
	for _, span := range spans(b, q) {
		count += span.To - span.From
	}
	return count, api.OK
}

// Volume: see P2.5.
func Volume(b []api.Run) (int, api.Errno) {
	if e := Validate(b); e != api.OK {
		return 0, e
	}
	volume := 0
	for _, run := range b {
		volume += run.Length * run.Mark.Thick
	}
	return volume, api.OK
}

// Agree: see P2.6.
func Agree(a, b []api.Run) (int, api.Errno) {
	if e := validateBoth(a, b); e != api.OK {
		return 0, e
	}
	a, b = normal(a), normal(b)
	count := 0
	for i := range min(len(a), len(b)) {
		if a[i].Mark != b[i].Mark {
			break
		}
		count += min(a[i].Length, b[i].Length)
		// In normal bands, the shorter one of two runs is followed by another mark, or by nothing.
		if a[i].Length != b[i].Length {
			break
		}
	}
	return count, api.OK
}

// Find: see P2.6.
func Find(b, piece []api.Run) (int, bool, api.Errno) {
	if e := validateBoth(b, piece); e != api.OK {
		return 0, false, e
	}
	b, piece = normal(b), normal(piece)
	if len(piece) == 0 {
		return 0, true, api.OK
	}
	for span := range marks(b) {
		place := span.From
		if len(piece) > 1 {
			// The mark changes after the first run of the piece: that run can only be the end of a run of b.
			place = span.To - piece[0].Length
		}
		if place >= span.From && slices.Equal(part(b, place, place+length(piece)), piece) {
			return place, true, api.OK
		}
	}
	return 0, false, api.OK
}

// Places: see P2.6.
func Places(b []api.Run) ([]int, api.Errno) {
	if e := Validate(b); e != api.OK {
		return nil, e
	}
	var places []int
	for span := range marks(normal(b)) {
		if span.From > 0 {
			places = append(places, span.From)
		}
	}
	return places, api.OK
}

// spans returns the longest spans of the places whose marks meet the query.
func spans(b []api.Run, q api.Query) []api.Span {
	var list []api.Span
	for span, mark := range marks(b) {
		if Holds(q, mark) {
			list = append(list, span)
		}
	}
	return joined(list, func(left, right api.Span) (api.Span, bool) {
		return api.Span{From: left.From, To: right.To}, left.To == right.From
	})
}
