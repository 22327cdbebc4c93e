package book

import (
	"strings"

	"linoleum/api"
	"linoleum/num"
)

const (
	postWord      = "post"
	maxDiscounted = 1 << 20
)

// FormatPosting: see P9.6.
func FormatPosting(x api.Posting) (string, api.Errno) {
	if e := Validate([]api.Posting{x}); e != api.OK {
		return "", e
	}
	// All pence of a valid posting can be written.
	money, _ := num.FormatMoney(x.Pence)
	return strings.Join([]string{postWord, x.Debit, x.Credit, money}, " "), api.OK
}

// ParsePosting: see P9.6.
func ParsePosting(text string) (api.Posting, api.Errno) {
	words := strings.SplitN(text, " ", 4)
	if len(words) < 4 || words[0] != postWord {
		return api.Posting{}, api.ErrSyntax
	}
	pence, e := num.ParseMoney(words[3])
	if e != api.OK {
		return api.Posting{}, api.ErrSyntax
	}
	x := api.Posting{Debit: words[1], Credit: words[2], Pence: pence}
	if Validate([]api.Posting{x}) != api.OK {
		return api.Posting{}, api.ErrSyntax
	}
	return x, api.OK
}

// Postings: see P9.6.
func Postings(book string) ([]api.Posting, api.Errno) {
	lines, e := linesOf(book)
	if e != api.OK {
		return nil, e
	}
	var list []api.Posting
	for _, line := range lines {
		if !strings.HasPrefix(line.Text, postWord+" ") {
			continue
		}
		x, e := ParsePosting(line.Text)
		if e != api.OK {
			return nil, e
		}
		list = append(list, x)
	}
	if len(list) > api.MaxPostings {
		return nil, api.ErrLarge
	}
	return list, api.OK
}

// Discount: see P9.7.
func Discount(pence int, rate api.Rat) (int, api.Errno) {
	if pence < 0 || pence > maxDiscounted || !num.Valid(rate) || rate.Num < 0 || rate.Num > rate.Den {
		return 0, api.ErrArg
	}
	// The rate is at most 1 and pence at most 2^20: the product is always a valid fraction.
	part, _ := num.Mul(api.Rat{Num: pence, Den: 1}, rate)
	off, _ := num.Round(part)
	return pence - off, api.OK
}
