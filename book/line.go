package book

import (
	"strconv"
	"strings"
	"unicode/utf8"

	"linoleum/api"
)

const (
	sumFactor  = 257
	sumModulus = 1000003
)

// Sum: see P9.1.
func Sum(before int, text string) int {
	sum := before % sumModulus
	if sum < 0 {
		sum += sumModulus
	}
	for at := range text {
		// The range goes from character to character, and the sum from byte to byte.
		_, size := utf8.DecodeRuneInString(text[at:])
		for i := range size {
			sum = (sum*sumFactor + int(text[at+i]) + 1) % sumModulus
		}
	}
	return sum
}

// newLine returns the line with this number and text behind a line with the sum before.
func newLine(number, before int, text string) api.Line {
	sum := Sum(before, strconv.Itoa(number)+" "+text)
	return api.Line{Number: number, Text: text, Sum: sum}
}

// format writes a line as it stands in a book.
func format(l api.Line) string {
	return strconv.Itoa(l.Number) + " " + strconv.Itoa(l.Sum) + " " + l.Text + "\n"
}

// readLine returns the line with this number at the beginning of a book, behind a line with the sum before, and the rest of the book; false if there is no such line.
func readLine(book string, number, before int) (line api.Line, rest string, ok bool) {
	written, rest, _ := strings.Cut(book, "\n")
	words := strings.SplitN(written, " ", 3)
	if len(words) < 3 || !isRight(words[2]) {
		return api.Line{}, "", false
	}
	line = newLine(number, before, words[2])
	// Only the line that is written for this text counts: that leaves out other numbers and sums, other spellings of them, and a line without its end.
	if !strings.HasPrefix(book, format(line)) {
		return api.Line{}, "", false
	}
	return line, rest, true
}

// isRight reports whether a text may be that of a line.
func isRight(text string) bool {
	if text == "" || len(text) > api.MaxLine || strings.Trim(text, " ") != text {
		return false
	}
	for _, c := range text {
		if c < ' ' || c > '~' {
			return false
		}
	}
	return true
}
