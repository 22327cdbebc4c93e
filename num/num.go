// Package num is layer 1: exact fractions, shares of totals, money and working time. See shared/doc/01-num.md.
package num

import (
	"math/bits"

	"linoleum/api"
)

// Valid: see P1.1.
func Valid(r api.Rat) bool {
	if r.Den < 1 || r.Den > api.MaxDen || r.Num < -api.MaxNum || r.Num > api.MaxNum {
		return false
	}
	return divisor(magnitude(r.Num), magnitude(r.Den)) == 1
}

// Make: see P1.1.
func Make(num, den int) (api.Rat, api.Errno) {
	if den == 0 {
		return api.Rat{}, api.ErrArg
	}
	above, below := magnitude(num), magnitude(den)
	common := divisor(above, below)
	above /= common
	below /= common
	if above > api.MaxNum || below > api.MaxDen {
		return api.Rat{}, api.ErrLarge
	}
	r := api.Rat{Num: int(above), Den: int(below)}
	if (num < 0) != (den < 0) {
		r.Num = -r.Num
	}
	return r, api.OK
}

// Add: see P1.2.
func Add(a, b api.Rat) (api.Rat, api.Errno) {
	if !Valid(a) || !Valid(b) {
		return api.Rat{}, api.ErrArg
	}
	// Each product is at most 2^60, so that their sum fits, too.
	return Make(a.Num*b.Den+b.Num*a.Den, a.Den*b.Den)
}

// Sub: see P1.2.
func Sub(a, b api.Rat) (api.Rat, api.Errno) {
	// b is valid just if it is with the other sign: Add finds the invalid ones.
	return Add(a, api.Rat{Num: -b.Num, Den: b.Den})
}

// Mul: see P1.2.
func Mul(a, b api.Rat) (api.Rat, api.Errno) {
	if !Valid(a) || !Valid(b) {
		return api.Rat{}, api.ErrArg
	}
	// Reduced crosswise, the factors leave nothing to reduce in the product: one that is too large now stays too large.
	left, _ := Make(a.Num, b.Den)
	right, _ := Make(b.Num, a.Den)
	high, low := bits.Mul64(magnitude(left.Num), magnitude(right.Num))
	if high > 0 || low > api.MaxNum {
		return api.Rat{}, api.ErrLarge
	}
	return Make(left.Num*right.Num, left.Den*right.Den)
}

// Div: see P1.2.
func Div(a, b api.Rat) (api.Rat, api.Errno) {
	if !Valid(a) || !Valid(b) || b.Num == 0 {
		return api.Rat{}, api.ErrArg
	}
	// Both products are at most 2^60: unlike those of Mul, they need no reducing first.
	return Make(a.Num*b.Den, a.Den*b.Num)
}

// Compare: see P1.2.
func Compare(a, b api.Rat) (int, api.Errno) {
	if !Valid(a) || !Valid(b) {
		return 0, api.ErrArg
	}
	left, right := a.Num*b.Den, b.Num*a.Den
	switch {
	case left < right:
		return -1, api.OK
	case left > right:
		return 1, api.OK
	}
	return 0, api.OK
}

// Floor: see P1.3.
func Floor(r api.Rat) (int, api.Errno) {
	if !Valid(r) {
		return 0, api.ErrArg
	}
	whole := r.Num / r.Den
	if r.Num%r.Den < 0 {
		whole--
	}
	return whole, api.OK
}

// Round: see P1.3.
func Round(r api.Rat) (int, api.Errno) {
	whole, e := Floor(r)
	if e != api.OK {
		return 0, e
	}
	twice := 2 * (r.Num - whole*r.Den)
	if twice > r.Den || twice == r.Den && whole%2 != 0 {
		whole++
	}
	return whole, api.OK
}

// magnitude is unsigned because the absolute value of the least int is not an int.
func magnitude(n int) uint64 {
	if n < 0 {
		return -uint64(n)
	}
	return uint64(n)
}

// divisor returns the greatest common divisor; that of 0 and a number is the number.
func divisor(a, b uint64) uint64 {
again:
	if b == 0 {
		return a
	}
	a, b = b, a%b
	goto again
}
