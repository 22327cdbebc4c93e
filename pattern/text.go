package pattern

import (
	"strconv"
	"strings"

	"linoleum/api"
)

// Format: see P5.7.
func Format(p api.Pattern) (string, api.Errno) {
	if e := Validate(p); e != api.OK {
		return "", e
	}
	repeat := least(p)
	words := []string{"grid", strconv.Itoa(repeat.A), strconv.Itoa(repeat.B), strconv.Itoa(repeat.C), rowsOf(repeat)}
	return strings.Join(words, " "), api.OK
}

func rowsOf(p api.Pattern) string {
	var text []byte
	for i, color := range p.Cells {
		if i > 0 && i%p.A == 0 {
			text = append(text, '/')
		}
		text = append(text, byte('0'+color))
	}
	return string(text)
}

// Parse: see P5.8.
func Parse(text string) (p api.Pattern, e api.Errno) {
	if len(text) > api.MaxText {
		return api.Pattern{}, api.ErrLarge
	}
	defer func() {
		if recover() != nil {
			p, e = api.Pattern{}, api.ErrSyntax
		}
	}()
	// The whole text is read before the first operation is done, because no error of an operation comes before that of the text.
	return read(text).pattern()
}

// expression is one that was read: grid is the pattern of `grid` and `bricks`, numbers are those between the word and the parts, or the colors of `recolor`.
type expression struct {
	kind    string
	grid    api.Pattern
	numbers []int
	parts   []expression
}

// pattern does the operations, those of the parts before its own.
func (x expression) pattern() (api.Pattern, api.Errno) {
	var parts []api.Pattern
	for _, part := range x.parts {
		p, e := part.pattern()
		if e != api.OK {
			return api.Pattern{}, e
		}
		parts = append(parts, p)
	}
	switch x.kind {
	case "shift":
		return Shift(parts[0], x.numbers[0], x.numbers[1])
	case "turn":
		return Turn(parts[0])
	case "mirror":
		return Mirror(parts[0])
	case "recolor":
		return Recolor(parts[0], x.numbers)
	case "over":
		return Over(parts[0], parts[1])
	case "swell":
		return Swell(parts[0], x.numbers[0])
	}
	return Least(x.grid)
}
