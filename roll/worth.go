package roll

import (
	"slices"

	"linoleum/api"
)

const maxPotential = 1 << 40

// Best: see P7.4.
func Best(b []api.Run, l []api.Article) ([]api.Piece, int, api.Errno) {
	t, e := lay(b, l)
	if e != api.OK {
		return nil, 0, e
	}
	worth := t.worth()
	return t.cut(worth), worth[t.length], api.OK
}

// Worth: see P7.4.
func Worth(b []api.Run, l []api.Article) ([]int, api.Errno) {
	t, e := lay(b, l)
	if e != api.OK {
		return nil, e
	}
	return t.worth(), api.OK
}

// Bound: see P7.5.
func Bound(b []api.Run, l []api.Article, potentials []int) (int, api.Errno) {
	t, e := lay(b, l)
	if e != api.OK {
		return 0, e
	}
	if !t.isRight(potentials) {
		return 0, api.ErrArg
	}
	for _, o := range t.offers {
		for _, from := range o.places() {
			if potentials[from+o.Length] < potentials[from]+o.Price {
				return 0, api.ErrRule
			}
		}
	}
	return potentials[t.length], api.OK
}

// Potentials: see P7.5.
func Potentials(b []api.Run, l []api.Article) ([]int, api.Errno) {
	// A piece after the best cutting before it makes a cutting of the places up to its end: what these are worth is at least that much.
	return Worth(b, l)
}

// worth returns, for each n from 0 to the length, the greatest value of a cutting of the first n places.
func (t table) worth() []int {
	worth := make([]int, t.length+1)
	for end := 1; end <= t.length; end++ {
		worth[end] = worth[end-1]
		for _, o := range t.offers {
			if from := end - o.Length; o.fitsAt(from) {
				worth[end] = max(worth[end], worth[from]+o.Price)
			}
		}
	}
	return worth
}

// cut returns a cutting of the greatest value, which it finds from the end of the band to its beginning.
func (t table) cut(worth []int) []api.Piece {
	var cutting []api.Piece
	for end := t.length; end > 0; {
		x, ok := t.last(worth, end)
		if !ok {
			end--
			continue
		}
		cutting = append(cutting, x)
		end = x.From
	}
	slices.Reverse(cutting)
	return cutting
}

// last returns the last piece of a best cutting of the places before an end; false if the last place may be waste.
func (t table) last(worth []int, end int) (api.Piece, bool) {
	if worth[end] == worth[end-1] {
		return api.Piece{}, false
	}
	for _, o := range t.offers {
		if from := end - o.Length; o.fitsAt(from) && worth[from]+o.Price == worth[end] {
			return api.Piece{From: from, Article: o.number}, true
		}
	}
	return api.Piece{}, false
}

func (t table) isRight(potentials []int) bool {
	if len(potentials) != t.length+1 || potentials[0] != 0 {
		return false
	}
	before := 0
	for _, n := range potentials {
		if !isFrom(before, maxPotential, n) {
			return false
		}
		before = n
	}
	return true
}
