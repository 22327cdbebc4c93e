package book_test

import (
	"math"
	"math/big"
	"math/rand"
	"slices"
	"strings"
	"testing"

	"linoleum/api"
	"linoleum/book"
	"linoleum/num"
)

func TestFormatPosting(t *testing.T) {
	for _, x := range []struct {
		posting api.Posting
		text    string
	}{
		{posting("stock", "cash", 270), "post stock cash 1l 2s 6d"},
		{posting("a", "b", 1), "post a b 1d"},
		{posting("b", "a", 12), "post b a 1s"},
		{posting("post", "cash", 240), "post post cash 1l"},
		{posting("cash", "post", 241), "post cash post 1l 1d"},
		{posting("abcdefgh", "z1234567", api.MaxPence), "post abcdefgh z1234567 4581298449l 1s 4d"},
		{posting("d", "s", 13), "post d s 1s 1d"},
	} {
		if text, e := book.FormatPosting(x.posting); text != x.text || e != api.OK {
			t.Errorf("P9.6: FormatPosting(%v) is %q, %v", x.posting, text, e)
		}
		if p, e := book.ParsePosting(x.text); p != x.posting || e != api.OK {
			t.Errorf("P9.6: ParsePosting(%q) is %v, %v", x.text, p, e)
		}
	}
}

func TestPostingsAsTexts(t *testing.T) {
	random := rand.New(rand.NewSource(903))
	for _, x := range randomPostings(random, 2000) {
		money, _ := num.FormatMoney(x.Pence)
		want := "post " + x.Debit + " " + x.Credit + " " + money
		if text, e := book.FormatPosting(x); text != want || e != api.OK {
			t.Errorf("P9.6: FormatPosting(%v) is %q, %v", x, text, e)
		}
		if again, e := book.ParsePosting(want); again != x || e != api.OK {
			t.Errorf("P9.6: ParsePosting(%q) is %v, %v", want, again, e)
		}
	}
}

// What is not valid has the error of Validate, and is not written.
func TestFormatPostingRefuses(t *testing.T) {
	for _, name := range invalidNames() {
		for _, x := range []api.Posting{posting(name, "cash", 1), posting("cash", name, 1), posting(name, name, 0)} {
			if text, e := book.FormatPosting(x); text != "" || e != api.ErrName {
				t.Errorf("P9.6: FormatPosting(%.100v) is %.100q, %v", x, text, e)
			}
		}
	}
	for _, pence := range wrongPence() {
		if text, e := book.FormatPosting(posting("stock", "cash", pence)); text != "" || e != api.ErrArg {
			t.Errorf("P9.6: FormatPosting of %d pence is %q, %v", pence, text, e)
		}
	}
	if text, e := book.FormatPosting(posting("cash", "cash", 1)); text != "" || e != api.ErrArg {
		t.Errorf("P9.6: FormatPosting of one account is %q, %v", text, e)
	}
}

func wrongPostings() []string {
	list := []string{
		"", " ", "post", "post ", "post  ", "post a", "post a b", "post a b ", "post  a b 1d", "post a  b 1d", "post a b  1d", "post a b 1d ", " post a b 1d",
		"pos a b 1d", "posta b 1d", "Post a b 1d", "POST a b 1d", "posts a b 1d", "note a b 1d", "a b 1d", "post a b c 1d", "post post a b 1d",
		"post a a 1d", "post a b 0d", "post a b -1d", "post a b -1l 2s", "post a b 1", "post a b d", "post a b 01d", "post a b +1d", "post a b 12d",
		"post a b 20s", "post a b 1s 0d", "post a b 1d 1s", "post a b 1l 1d ", "post a b 1l  1d", "post a b 4581298449l 1s 5d", "post a b 9223372036854775808d",
		"post a b 1d\n", "post a b 1d\x00", "post\ta b 1d", "post a\tb 1d", "post a b\t1d", "post a b 1l\t1d", "post,a,b,1d", strings.Repeat("post ", 100000),
		"post a b 1D", "post a b 1p", "post a b 270", "post 1d a b",
	}
	for _, name := range invalidNames() {
		list = append(list, "post "+name+" cash 1d", "post cash "+name+" 1d")
	}
	return list
}

func TestParsePostingRefuses(t *testing.T) {
	for _, text := range wrongPostings() {
		if x, e := book.ParsePosting(text); x != (api.Posting{}) || e != api.ErrSyntax {
			t.Errorf("P9.6: ParsePosting(%.100q) is %v, %v", text, x, e)
		}
	}
}

// Any text that is read is the one that is written.
func TestParsePostingOfAlteredTexts(t *testing.T) {
	text := "post stock cash2 11l 2s 6d"
	read := 0
	for at := range len(text) {
		for c := range 256 {
			for _, s := range []string{text[:at] + string([]byte{byte(c)}) + text[at+1:], text[:at] + string([]byte{byte(c)}) + text[at:], text[:at] + text[at+1:]} {
				x, e := book.ParsePosting(s)
				if e != api.OK {
					if x != (api.Posting{}) || e != api.ErrSyntax {
						t.Errorf("P9.6: ParsePosting(%q) is %v, %v", s, x, e)
					}
					continue
				}
				read++
				if again, e := book.FormatPosting(x); again != s || e != api.OK {
					t.Errorf("P9.6: %q is read as %v, which is written %q, %v", s, x, again, e)
				}
			}
		}
	}
	if read < 500 {
		t.Errorf("P9.6: only %d of the altered texts are postings", read)
	}
}

func TestPostings(t *testing.T) {
	for _, x := range []struct {
		texts []string
		want  []api.Posting
	}{
		{nil, nil},
		{[]string{"note", "posted a b 1d", "post", "posts", "Post a b 1d", "a post a b 1d", "po st"}, nil},
		{[]string{"post a b 1d", "note", "post b c 2s"}, []api.Posting{posting("a", "b", 1), posting("b", "c", 24)}},
		{[]string{"post b c 2s", "post a b 1d", "post b c 2s"}, []api.Posting{posting("b", "c", 24), posting("a", "b", 1), posting("b", "c", 24)}},
	} {
		if got, e := book.Postings(bookOf(x.texts...)); !slices.Equal(got, x.want) || e != api.OK {
			t.Errorf("P9.6: Postings of %q is %v, %v", x.texts, got, e)
		}
	}
}

// S6: the accounts of a book's postings are those of the list.
func TestPostingsOfLongBooks(t *testing.T) {
	random := rand.New(rand.NewSource(904))
	for _, n := range []int{0, 1, 5, 30, api.MaxPostings, api.MaxPostings + 1, api.MaxLines} {
		want := randomPostings(random, n)
		b := ""
		lines := 0
		for i, x := range want {
			if n <= api.MaxPostings {
				b, _ = book.Append(b, "note of "+x.Debit)
				lines++
			}
			text, _ := book.FormatPosting(x)
			b, _ = book.Append(b, text)
			lines++
			if read, _ := book.Read(b); len(read) != lines {
				t.Fatalf("P9.3: %d lines after %d postings", len(read), i+1)
			}
		}
		we := api.OK
		if n > api.MaxPostings {
			want, we = nil, api.ErrLarge
		}
		got, e := book.Postings(b)
		if !slices.Equal(got, want) || e != we {
			t.Errorf("P9.6: Postings of %d lines are %v, %v", lines, got, e)
		}
		if e == api.OK {
			checkAccounts(t, got)
		}
	}
}

func TestPostingsRefuse(t *testing.T) {
	many := []string{}
	for range api.MaxPostings + 1 {
		many = append(many, "post a b 1d")
	}
	for _, texts := range [][]string{
		{"post a b"}, {"post x"}, {"post a a 1d"}, {"post a b 0d"}, {"post a b 1d", "post a b -1d"}, {"post  a b 1d"}, {"note", "post a b 1d", "post A b 1d", "post a b 1d"},
		append(slices.Clone(many), "post x"), append([]string{"post x"}, many...),
	} {
		if got, e := book.Postings(bookOf(texts...)); len(got) != 0 || e != api.ErrSyntax {
			t.Errorf("P9.6: Postings of %q is %v, %v", texts, got, e)
		}
	}
	for _, b := range append(brokenBooks(), bookOf("post x")+"y", bookOf(many...)+"y", bookOf("post a b 1d")+"2") {
		if got, e := book.Postings(b); len(got) != 0 || e != api.ErrBroken {
			t.Errorf("P9.6: Postings(%.100q) is %v, %v", b, got, e)
		}
	}
}

// discount is P9.7 word by word: pence minus the nearest integer, the even one of two.
func discount(pence int, rate api.Rat) int {
	part := new(big.Rat).Mul(big.NewRat(int64(pence), 1), big.NewRat(int64(rate.Num), int64(rate.Den)))
	floor := new(big.Int).Div(part.Num(), part.Denom())
	rest := new(big.Rat).Sub(part, new(big.Rat).SetInt(floor))
	off := int(floor.Int64())
	if half := rest.Cmp(big.NewRat(1, 2)); half > 0 || half == 0 && off%2 != 0 {
		off++
	}
	return pence - off
}

func TestDiscount(t *testing.T) {
	random := rand.New(rand.NewSource(905))
	rates := []api.Rat{{Num: 0, Den: 1}, {Num: 1, Den: 1}, {Num: 1, Den: 2}, {Num: 1, Den: 40}, {Num: 39, Den: 40}, {Num: 1, Den: 3}, {Num: 1, Den: 1 << 20}, {Num: 1<<20 - 1, Den: 1 << 20}, {Num: 1<<20 - 2, Den: 1<<20 - 1}}
	for range 100 {
		den := 1 + random.Intn(1<<uint(1+random.Intn(20)))
		r, _ := num.Make(random.Intn(den+1), den)
		rates = append(rates, r)
	}
	for _, rate := range rates {
		prices := []int{1 << 20, 1<<20 - 1, 1<<20 - 2, 1 << 19, 999983, random.Intn(1 << 20), random.Intn(1 << 20)}
		for pence := range 130 {
			prices = append(prices, pence)
		}
		for _, pence := range prices {
			if got, e := book.Discount(pence, rate); got != discount(pence, rate) || e != api.OK {
				t.Errorf("P9.7: Discount(%d, %v) is %d, %v, not %d", pence, rate, got, e, discount(pence, rate))
			}
		}
	}
	for _, x := range []struct {
		pence int
		rate  api.Rat
		want  int
	}{
		{101, api.Rat{Num: 1, Den: 40}, 98}, {100, api.Rat{Num: 1, Den: 40}, 98}, {140, api.Rat{Num: 1, Den: 40}, 136}, {7, api.Rat{Num: 1, Den: 1}, 0},
		{7, api.Rat{Num: 0, Den: 1}, 7}, {0, api.Rat{Num: 1, Den: 2}, 0}, {1, api.Rat{Num: 1, Den: 2}, 1}, {3, api.Rat{Num: 1, Den: 2}, 1},
		{1 << 20, api.Rat{Num: 1<<20 - 1, Den: 1 << 20}, 1},
	} {
		if got, e := book.Discount(x.pence, x.rate); got != x.want || e != api.OK {
			t.Errorf("P9.7: Discount(%d, %v) is %d, %v", x.pence, x.rate, got, e)
		}
	}
}

func TestDiscountRefuses(t *testing.T) {
	half := api.Rat{Num: 1, Den: 2}
	for _, pence := range []int{-1, 1<<20 + 1, math.MinInt, math.MaxInt, -1 << 20} {
		if got, e := book.Discount(pence, half); got != 0 || e != api.ErrArg {
			t.Errorf("P9.7: Discount(%d, 1/2) is %d, %v", pence, got, e)
		}
	}
	for _, rate := range []api.Rat{
		{}, {Num: 1}, {Num: 2, Den: 4}, {Num: 0, Den: 2}, {Num: 2, Den: 2}, {Num: -1, Den: -2}, {Num: 1, Den: -2}, {Num: 1, Den: 1<<20 + 1}, {Num: 1<<20 + 1, Den: 1<<20 + 2},
		{Num: -1, Den: 2}, {Num: -1, Den: 1}, {Num: -1, Den: 1 << 20}, {Num: 2, Den: 1}, {Num: 3, Den: 2}, {Num: 1 << 20, Den: 1<<20 - 1}, {Num: api.MaxNum, Den: 1},
		{Num: math.MinInt, Den: math.MinInt}, {Num: math.MaxInt, Den: 1}, {Num: math.MinInt, Den: 1},
	} {
		for _, pence := range []int{0, 1, 100, 1 << 20} {
			if got, e := book.Discount(pence, rate); got != 0 || e != api.ErrArg {
				t.Errorf("P9.7: Discount(%d, %v) is %d, %v", pence, rate, got, e)
			}
		}
	}
}
