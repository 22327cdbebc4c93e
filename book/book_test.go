package book_test

import (
	"math"
	"math/rand"
	"strings"
	"testing"

	"linoleum/api"
	"linoleum/book"
)

// brokenBooks are not whole, each in its own way.
func brokenBooks() []string {
	b := bookOf("a", "b")
	return []string{
		"x", "\n", b + "x", b + "\n", b[:len(b)-1], b[1:], "2" + b[1:], strings.Replace(b, " a", " A", 1), b + b,
		bookOf("a", " b"), bookOf("", "b"), bookOf("a\n"), bookOf(numbered(api.MaxLines + 1)...),
	}
}

func TestAppend(t *testing.T) {
	random := rand.New(rand.NewSource(95))
	for range 50 {
		texts := append(randomTexts(random, random.Intn(12)), rightTexts()...)
		random.Shuffle(len(texts), func(i, j int) { texts[i], texts[j] = texts[j], texts[i] })
		b := ""
		for i, text := range texts {
			next, e := book.Append(b, text)
			if want := bookOf(texts[:i+1]...); next != want || e != api.OK {
				t.Fatalf("P9.3: Append(%q, %q) is %q, %v, not %q", b, text, next, e, want)
			}
			b = next
		}
	}
	if b, e := book.Append("", "a"); b != "1 311020 a\n" || e != api.OK {
		t.Errorf("P9.3: the first line is %q, %v", b, e)
	}
}

func TestAppendRefuses(t *testing.T) {
	full := bookOf(numbered(api.MaxLines)...)
	almost := bookOf(numbered(api.MaxLines - 1)...)
	for _, text := range wrongTexts() {
		for _, b := range []string{"", bookOf("a"), full} {
			if got, e := book.Append(b, text); got != "" || e != api.ErrArg {
				t.Errorf("P9.3: Append(%.100q, %.100q) is %q, %v", b, text, got, e)
			}
		}
	}
	for _, b := range brokenBooks() {
		for _, text := range []string{"a", "", " a", "é"} {
			if got, e := book.Append(b, text); got != "" || e != api.ErrBroken {
				t.Errorf("P9.3: Append(%.100q, %q) is %q, %v", b, text, got, e)
			}
		}
	}
	if got, e := book.Append(full, "a"); got != "" || e != api.ErrLarge {
		t.Errorf("P9.3: Append to a full book is %.100q, %v", got, e)
	}
	if got, e := book.Append(almost, "line 199"); got != full || e != api.OK {
		t.Errorf("P9.3: the last line of a full book: %.100q, %v", got, e)
	}
}

func TestFind(t *testing.T) {
	random := rand.New(rand.NewSource(96))
	for range 30 {
		b := bookOf(randomTexts(random, random.Intn(9))...)
		lines, _ := read(b)
		for _, number := range []int{math.MinInt, -1, 0, 1, 2, 3, 4, 5, 6, 7, 8, 9, 10, math.MaxInt} {
			want, we := api.Line{}, api.ErrNone
			for _, line := range lines {
				if line.Number == number {
					want, we = line, api.OK
				}
			}
			if got, e := book.Find(b, number); got != want || e != we {
				t.Errorf("P9.3: Find(%q, %d) is %v, %v, not %v, %v", b, number, got, e, want, we)
			}
		}
	}
	for _, b := range brokenBooks() {
		for _, number := range []int{-1, 0, 1, 2, 100} {
			if got, e := book.Find(b, number); got != (api.Line{}) || e != api.ErrBroken {
				t.Errorf("P9.3: Find(%.100q, %d) is %v, %v", b, number, got, e)
			}
		}
	}
	full := bookOf(numbered(api.MaxLines)...)
	if got, e := book.Find(full, api.MaxLines); got.Text != "line 199" || got.Number != api.MaxLines || e != api.OK {
		t.Errorf("P9.3: the last line of a full book is %v, %v", got, e)
	}
	if got, e := book.Find(full, api.MaxLines+1); got != (api.Line{}) || e != api.ErrNone {
		t.Errorf("P9.3: the line behind a full book is %v, %v", got, e)
	}
}

// Since and Extend take a book apart and join it, at each of its lines.
func TestSinceAndExtend(t *testing.T) {
	random := rand.New(rand.NewSource(97))
	for range 40 {
		texts := randomTexts(random, random.Intn(9))
		b := bookOf(texts...)
		for n := range len(texts) + 1 {
			head := bookOf(texts[:n]...)
			tail, e := book.Since(b, n+1)
			if head+tail != b || e != api.OK {
				t.Errorf("P9.3: Since(%q, %d) is %q, %v", b, n+1, tail, e)
			}
			if got, e := book.Extend(head, tail); got != b || e != api.OK {
				t.Errorf("P9.3: Extend(%q, %q) is %q, %v", head, tail, got, e)
			}
		}
		for _, number := range []int{math.MinInt, -1, 0, len(texts) + 2, len(texts) + 3, math.MaxInt} {
			if got, e := book.Since(b, number); got != "" || e != api.ErrNone {
				t.Errorf("P9.3: Since(%q, %d) is %q, %v", b, number, got, e)
			}
		}
	}
	for _, b := range brokenBooks() {
		for _, number := range []int{-1, 0, 1, 2, 3, 1000} {
			if got, e := book.Since(b, number); got != "" || e != api.ErrBroken {
				t.Errorf("P9.3: Since(%.100q, %d) is %q, %v", b, number, got, e)
			}
		}
	}
	full := bookOf(numbered(api.MaxLines)...)
	if got, e := book.Since(full, api.MaxLines+1); got != "" || e != api.OK {
		t.Errorf("P9.3: Since behind a full book is %q, %v", got, e)
	}
}

func TestExtendRefuses(t *testing.T) {
	b := bookOf("a", "b")
	one := bookOf("a")
	for _, tail := range []string{"x", "\n", b, one, b[len(one):] + "x", b[len(one) : len(b)-1], bookOf("a", "c")[len(one):] + b[len(one):], bookOf("c", "b")[len(one):]} {
		if got, e := book.Extend(one, tail); got != "" || e != api.ErrBroken {
			t.Errorf("P9.3: Extend(%q, %q) is %q, %v", one, tail, got, e)
		}
	}
	// The tail makes a torn book whole; but the book was not.
	for n := range len(b) {
		if n == 0 || n == len(one) {
			continue
		}
		if got, e := book.Extend(b[:n], b[n:]); got != "" || e != api.ErrBroken {
			t.Errorf("P9.3: Extend(%q, %q) is %q, %v", b[:n], b[n:], got, e)
		}
	}
	for _, broken := range brokenBooks() {
		for _, tail := range []string{"", "x", b} {
			if got, e := book.Extend(broken, tail); got != "" || e != api.ErrBroken {
				t.Errorf("P9.3: Extend(%.100q, %q) is %q, %v", broken, tail, got, e)
			}
		}
	}
	full, over := bookOf(numbered(api.MaxLines)...), bookOf(numbered(api.MaxLines+1)...)
	if got, e := book.Extend(full, over[len(full):]); got != "" || e != api.ErrBroken {
		t.Errorf("P9.3: Extend of a full book is %.100q, %v", got, e)
	}
	if got, e := book.Extend(full, ""); got != full || e != api.OK {
		t.Errorf("P9.3: Extend of a full book by nothing is %.100q, %v", got, e)
	}
	if got, e := book.Extend("", ""); got != "" || e != api.OK {
		t.Errorf("P9.3: Extend of nothing by nothing is %q, %v", got, e)
	}
	if got, e := book.Extend("", b); got != b || e != api.OK {
		t.Errorf("P9.3: Extend of nothing is %q, %v", got, e)
	}
}
