package book

import "linoleum/api"

// Relation: see P9.4.
func Relation(a, b string) (relation, line int, e api.Errno) {
	first, firstErr := linesOf(a)
	second, secondErr := linesOf(b)
	if firstErr != api.OK || secondErr != api.OK {
		return 0, 0, api.ErrBroken
	}
	for i := range min(len(first), len(second)) {
		if first[i] != second[i] {
			return api.Parted, i + 1, api.OK
		}
	}
	switch {
	case len(first) < len(second):
		return api.Before, 0, api.OK
	case len(first) > len(second):
		return api.After, 0, api.OK
	}
	return api.Equal, 0, api.OK
}

// Merge: see P9.4.
func Merge(a, b string) (string, api.Errno) {
	relation, _, e := Relation(a, b)
	switch {
	case e != api.OK:
		return "", e
	case relation == api.Parted:
		return "", api.ErrState
	case relation == api.Before:
		return b, api.OK
	}
	return a, api.OK
}
