package num

import (
	"strconv"
	"strings"

	"linoleum/api"
)

const (
	penceOfPound    = 240
	penceOfShilling = 12
)

// FormatRat: see P1.5.
func FormatRat(r api.Rat) (string, api.Errno) {
	if !Valid(r) {
		return "", api.ErrArg
	}
	text := strconv.Itoa(r.Num)
	if r.Den != 1 {
		text += "/" + strconv.Itoa(r.Den)
	}
	return text, api.OK
}

// ParseRat: see P1.5.
func ParseRat(text string) (api.Rat, api.Errno) {
	above, below, divided := strings.Cut(text, "/")
	if !divided {
		below = "1"
	}
	num, numErr := strconv.Atoi(above)
	den, denErr := strconv.Atoi(below)
	if numErr != nil || denErr != nil {
		return api.Rat{}, api.ErrSyntax
	}
	r := api.Rat{Num: num, Den: den}
	// Atoi also takes signs and leading zeros that FormatRat does not write: only the same text counts.
	if again, e := FormatRat(r); e != api.OK || again != text {
		return api.Rat{}, api.ErrSyntax
	}
	return r, api.OK
}

// FormatMoney: see P1.6.
func FormatMoney(pence int) (string, api.Errno) {
	if pence < -api.MaxPence || pence > api.MaxPence {
		return "", api.ErrArg
	}
	if pence == 0 {
		return "0d", api.OK
	}
	sign := ""
	if pence < 0 {
		sign = "-"
		pence = -pence
	}
	words := appendUnit(nil, pence/penceOfPound, "l")
	words = appendUnit(words, pence%penceOfPound/penceOfShilling, "s")
	words = appendUnit(words, pence%penceOfShilling, "d")
	return sign + strings.Join(words, " "), api.OK
}

func appendUnit(words []string, amount int, unit string) []string {
	if amount == 0 {
		return words
	}
	return append(words, strconv.Itoa(amount)+unit)
}

// ParseMoney: see P1.6.
func ParseMoney(text string) (int, api.Errno) {
	amount, negative := strings.CutPrefix(text, "-")
	pence := 0
	for _, word := range strings.Split(amount, " ") {
		value, ok := penceOfWord(word)
		if !ok {
			return 0, api.ErrSyntax
		}
		pence += value
	}
	if negative {
		pence = -pence
	}
	// Only what FormatMoney writes counts: that leaves out other spellings, such as 12d for 1s, and sums that have wrapped around.
	if again, e := FormatMoney(pence); e != api.OK || again != text {
		return 0, api.ErrSyntax
	}
	return pence, api.OK
}

func penceOfWord(word string) (int, bool) {
	if word == "" {
		return 0, false
	}
	last := len(word) - 1
	amount, err := strconv.Atoi(word[:last])
	if err != nil {
		return 0, false
	}
	switch word[last] {
	case 'l':
		return amount * penceOfPound, true
	case 's':
		return amount * penceOfShilling, true
	case 'd':
		return amount, true
	}
	return 0, false
}
