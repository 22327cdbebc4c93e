package book_test

import (
	"math/rand"
	"slices"
	"testing"

	"linoleum/api"
	"linoleum/book"
)

// relation is P9.4 word by word, of the texts of two books.
func relation(a, b []string) (int, int) {
	for i := range max(len(a), len(b)) {
		switch {
		case i == len(a):
			return api.Before, 0
		case i == len(b):
			return api.After, 0
		case a[i] != b[i]:
			return api.Parted, i + 1
		}
	}
	return api.Equal, 0
}

// checkCopies compares Relation and Merge of two books with P9.4.
func checkCopies(t *testing.T, a, b []string) {
	t.Helper()
	first, second := bookOf(a...), bookOf(b...)
	want, wantLine := relation(a, b)
	got, line, e := book.Relation(first, second)
	if got != want || line != wantLine || e != api.OK {
		t.Errorf("P9.4: Relation(%q, %q) is %d, %d, %v, not %d, %d", first, second, got, line, e, want, wantLine)
	}
	merged, we := first, api.OK
	if want == api.Before {
		merged = second
	}
	if want == api.Parted {
		merged, we = "", api.ErrState
	}
	if s, e := book.Merge(first, second); s != merged || e != we {
		t.Errorf("P9.4: Merge(%q, %q) is %q, %v, not %q, %v", first, second, s, e, merged, we)
	}
}

func TestCopies(t *testing.T) {
	lists := [][]string{nil}
	// All books of up to three lines with the texts a and b.
	for from, n := 0, 0; n < 3; n++ {
		to := len(lists)
		for _, l := range lists[from:to] {
			lists = append(lists, append(slices.Clone(l), "a"), append(slices.Clone(l), "b"))
		}
		from = to
	}
	if len(lists) != 15 {
		t.Fatal(len(lists), "books")
	}
	for _, a := range lists {
		for _, b := range lists {
			checkCopies(t, a, b)
		}
	}
}

func TestCopiesOfLongBooks(t *testing.T) {
	random := rand.New(rand.NewSource(98))
	for range 60 {
		a := randomTexts(random, 1+random.Intn(30))
		b := slices.Clone(a[:random.Intn(len(a)+1)])
		checkCopies(t, a, b)
		checkCopies(t, b, a)
		b = append(b, randomTexts(random, random.Intn(5))...)
		checkCopies(t, a, b)
		checkCopies(t, b, a)
	}
	full := numbered(api.MaxLines)
	other := slices.Clone(full)
	other[api.MaxLines-1] = "other"
	checkCopies(t, full, full)
	checkCopies(t, full, other)
	checkCopies(t, full[:api.MaxLines-1], full)
}

// Lines with equal sums still differ by their texts.
func TestCopiesWithEqualSums(t *testing.T) {
	random := rand.New(rand.NewSource(99))
	texts := map[int]string{}
	for {
		text := randomText(random)
		sum := sumOf(0, "1 "+text)
		if other := texts[sum]; other != "" && other != text {
			checkCopies(t, []string{text}, []string{other})
			checkCopies(t, []string{text, "a"}, []string{other, "a"})
			return
		}
		texts[sum] = text
	}
}

func TestCopiesRefuse(t *testing.T) {
	whole := []string{"", bookOf("a"), bookOf("b", "c"), bookOf("a", "b", "c")}
	for i, broken := range brokenBooks() {
		others := append(slices.Clone(whole), broken, brokenBooks()[(i+1)%len(brokenBooks())])
		for _, other := range others {
			for _, pair := range [][2]string{{broken, other}, {other, broken}} {
				if r, line, e := book.Relation(pair[0], pair[1]); r != 0 || line != 0 || e != api.ErrBroken {
					t.Errorf("P9.4: Relation(%.100q, %.100q) is %d, %d, %v", pair[0], pair[1], r, line, e)
				}
				if s, e := book.Merge(pair[0], pair[1]); s != "" || e != api.ErrBroken {
					t.Errorf("P9.4: Merge(%.100q, %.100q) is %q, %v", pair[0], pair[1], s, e)
				}
			}
		}
	}
}
