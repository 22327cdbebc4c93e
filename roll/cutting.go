package roll

import (
	"slices"

	"linoleum/api"
	"linoleum/band"
)

// Record: see the chapter.
type Record struct {
	Article, Phase int
	Band           []api.Run
}

// Check: see P7.3.
func Check(b []api.Run, l []api.Article, cutting []api.Piece) api.Errno {
	_, e := layFor(b, l, cutting)
	return e
}

// Value: see P7.3.
func Value(b []api.Run, l []api.Article, cutting []api.Piece) (int, api.Errno) {
	t, e := layFor(b, l, cutting)
	if e != api.OK {
		return 0, e
	}
	sum := 0
	for _, x := range cutting {
		sum += t.offers[x.Article].Price
	}
	return sum, api.OK
}

// Greedy: see P7.6.
func Greedy(b []api.Run, l []api.Article) ([]api.Piece, api.Errno) {
	t, e := lay(b, l)
	if e != api.OK {
		return nil, e
	}
	ranked := t.ranked()
	var cutting []api.Piece
	for from := 0; from < t.length; {
		i := slices.IndexFunc(ranked, func(o offer) bool { return o.fitsAt(from) })
		if i < 0 {
			from++
			continue
		}
		cutting = append(cutting, api.Piece{From: from, Article: ranked[i].number})
		from += ranked[i].Length
	}
	return cutting, api.OK
}

// Waste: see P7.7.
func Waste(b []api.Run, l []api.Article, cutting []api.Piece) ([]api.Span, api.Errno) {
	t, e := layFor(b, l, cutting)
	if e != api.OK {
		return nil, e
	}
	var waste []api.Span
	from := 0
	for _, x := range cutting {
		if from < x.From {
			waste = append(waste, api.Span{From: from, To: x.From})
		}
		from = t.end(x)
	}
	if from < t.length {
		waste = append(waste, api.Span{From: from, To: t.length})
	}
	return waste, api.OK
}

// Records: see P7.7.
func Records(b []api.Run, l []api.Article, cutting []api.Piece, phase, repeat int) ([]Record, api.Errno) {
	t, e := layFor(b, l, cutting)
	if e != api.OK {
		return nil, e
	}
	if !isFrom(1, api.MaxCells, repeat) || !isFrom(0, repeat-1, phase) {
		return nil, api.ErrArg
	}
	var records []Record
	for _, x := range cutting {
		piece, e := band.Slice(t.band, x.From, t.end(x))
		if e != api.OK {
			return nil, e
		}
		records = append(records, Record{Article: x.Article, Phase: (phase + x.From) % repeat, Band: piece})
	}
	return records, api.OK
}

// layFor returns the table for a cutting, or the error of Check.
func layFor(b []api.Run, l []api.Article, cutting []api.Piece) (table, api.Errno) {
	t, e := lay(b, l)
	if e != api.OK {
		return table{}, e
	}
	if e := t.check(cutting); e != api.OK {
		return table{}, e
	}
	return t, api.OK
}

func (t table) check(cutting []api.Piece) api.Errno {
	free := 0 // the end of the piece before
	for _, x := range cutting {
		if !t.fits(x) {
			return api.ErrFit
		}
		if x.From < free {
			return api.ErrOrder
		}
		free = t.end(x)
	}
	return api.OK
}

// end returns the end of a piece that fits.
func (t table) end(x api.Piece) int {
	return x.From + t.offers[x.Article].Length
}
