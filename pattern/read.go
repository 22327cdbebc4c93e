package pattern

import (
	"strconv"
	"strings"

	"linoleum/api"
)

// reader has the words that are not read yet. Its functions stop with panic where the words are not an expression, so that only Parse has to know that there is an error.
type reader struct {
	words []string
}

func read(text string) expression {
	r := &reader{words: strings.Split(text, " ")}
	x := r.expression(1)
	require(len(r.words) == 0)
	return x
}

func require(is bool) {
	if !is {
		panic(api.ErrSyntax)
	}
}

// expression reads one that has depth - 1 others around it.
func (r *reader) expression(depth int) expression {
	require(depth <= api.MaxDepth)
	x := expression{kind: r.word()}
	switch x.kind {
	case "grid":
		x.grid = r.grid()
		return x
	case "bricks":
		x.grid = r.bricks()
		return x
	case "shift":
		x.numbers = append(x.numbers, r.number())
		// The other number is read as that of a swell.
		fallthrough
	case "swell":
		x.numbers = append(x.numbers, r.number())
	case "recolor":
		x.numbers = digits(r.word(), api.MaxColors)
	case "over":
		x.parts = append(x.parts, r.part(depth+1))
	case "turn", "mirror":
	default:
		panic(api.ErrSyntax)
	}
	x.parts = append(x.parts, r.part(depth+1))
	return x
}

func (r *reader) part(depth int) expression {
	require(r.word() == "(")
	x := r.expression(depth)
	require(r.word() == ")")
	return x
}

func (r *reader) grid() api.Pattern {
	p := api.Pattern{A: r.number(), B: r.number(), C: r.number()}
	p.Cells = r.rows(p.A, p.C)
	return p
}

func (r *reader) bricks() api.Pattern {
	p := api.Pattern{A: r.number(), C: r.number()}
	drop := r.number()
	p.Cells = r.rows(p.A, p.C)
	// A width that has no row is gone by now.
	p.B = modulo(drop, p.A)
	return p
}

// rows reads the colors of at least one row of at least one digit.
func (r *reader) rows(width, height int) []int {
	rows := strings.Split(r.word(), "/")
	require(width > 0 && len(rows) == height)
	var cells []int
	for _, row := range rows {
		cells = append(cells, digits(row, width)...)
	}
	return cells
}

func (r *reader) number() int {
	word := r.word()
	n, err := strconv.Atoi(word)
	require(err == nil && isFrom(-api.MaxPlace, api.MaxPlace, n))
	// Atoi also takes signs and leading zeros that R9 does not allow.
	require(strconv.Itoa(n) == word)
	return n
}

func (r *reader) word() string {
	require(len(r.words) > 0)
	word := r.words[0]
	r.words = r.words[1:]
	return word
}

func digits(text string, count int) []int {
	require(len(text) == count)
	list := make([]int, count)
	for i := range list {
		list[i] = int(text[i]) - '0'
		require(isFrom(0, 9, list[i]))
	}
	return list
}
