package lot

import (
	"math/big"
	"slices"
	"testing"

	"linoleum/api"
)

func (n natural) big() *big.Int {
	sum := new(big.Int)
	for _, word := range slices.Backward(n[:]) {
		sum.Lsh(sum, 64).Add(sum, new(big.Int).SetUint64(word))
	}
	return sum
}

// powers returns numbers of 0 to 460 bits, as large as denominators can be.
func powers() []natural {
	list := []natural{{}, {1}, {1<<64 - 1}, {0, 1}, {1<<64 - 1, 1<<64 - 1}}
	for _, factor := range []int{2, 599999, 600000, 1<<20 - 1} {
		n := natural{1}
		for range api.MaxLots - 1 {
			n = n.times(factor)
			list = append(list, n)
		}
	}
	return list
}

// P3.3 needs numbers that no int has: they are compared with those of math/big.
func TestNatural(t *testing.T) {
	for _, n := range powers() {
		for _, factor := range []int{0, 1, 2, 3, 599999, 1<<20 - 1, api.MaxDen, api.MaxNum} {
			if got, want := n.times(factor).big(), new(big.Int).Mul(n.big(), big.NewInt(int64(factor))); got.Cmp(want) != 0 {
				t.Errorf("%v times %d is %v", n.big(), factor, got)
			}
			if factor == 0 {
				continue
			}
			quotient, rest := n.divided(factor)
			want, left := new(big.Int).QuoRem(n.big(), big.NewInt(int64(factor)), new(big.Int))
			if quotient.big().Cmp(want) != 0 || int64(rest) != left.Int64() {
				t.Errorf("%v divided by %d is %v, %d", n.big(), factor, quotient.big(), rest)
			}
		}
		for _, m := range powers() {
			if got, want := n.plus(m).big(), new(big.Int).Add(n.big(), m.big()); got.Cmp(want) != 0 {
				t.Errorf("%v plus %v is %v", n.big(), m.big(), got)
			}
			if got, want := n.compare(m), n.big().Cmp(m.big()); got != want {
				t.Errorf("%v compared with %v is %d", n.big(), m.big(), got)
			}
		}
	}
}
