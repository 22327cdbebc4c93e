package lot

import (
	"cmp"
	"math/bits"
)

// words are enough for every number of the package: the denominators of at most MaxLots - 1 made lots, each below 2^20, times a numerator of at most MaxNum have at most 500 bits.
const words = 8

// natural is a number from 0 on, with its lowest word first.
type natural [words]uint64

func (n natural) plus(m natural) natural {
	carry := uint64(0)
	for i := range n {
		n[i], carry = bits.Add64(n[i], m[i], carry)
	}
	return n
}

// times multiplies by factors from 0 on.
func (n natural) times(factors ...int) natural {
	for _, factor := range factors {
		carry := uint64(0)
		for i := range n {
			high, low := bits.Mul64(n[i], uint64(factor))
			sum, more := bits.Add64(low, carry, 0)
			n[i] = sum
			carry = high + more
		}
	}
	return n
}

// divided returns the quotient and the remainder by a divisor above 0.
func (n natural) divided(divisor int) (natural, int) {
	rest := uint64(0)
	for i := words - 1; i >= 0; i-- {
		n[i], rest = bits.Div64(rest, n[i], uint64(divisor))
	}
	return n, int(rest)
}

func (n natural) compare(m natural) int {
	for i := words - 1; i >= 0; i-- {
		if n[i] != m[i] {
			return cmp.Compare(n[i], m[i])
		}
	}
	return 0
}
