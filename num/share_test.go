package num_test

import (
	"math"
	"math/big"
	"slices"
	"testing"

	"linoleum/api"
	"linoleum/num"
)

// share is P1.4 word by word: the units that are left over go one by one to the largest remainder that has none yet.
func share(total int, weights []int) []int {
	sum := 0
	for _, w := range weights {
		sum += w
	}
	parts := make([]int, len(weights))
	remainders := make([]int64, len(weights))
	left := total
	for i, w := range weights {
		product := new(big.Int).Mul(big.NewInt(int64(total)), big.NewInt(int64(w)))
		quotient, remainder := new(big.Int).DivMod(product, big.NewInt(int64(sum)), new(big.Int))
		parts[i] = int(quotient.Int64())
		remainders[i] = remainder.Int64()
		left -= parts[i]
	}
	for ; left > 0; left-- {
		first := 0
		for i, r := range remainders {
			if r > remainders[first] {
				first = i
			}
		}
		parts[first]++
		remainders[first] = -1
	}
	return parts
}

func checkShare(t *testing.T, total int, weights []int) {
	t.Helper()
	given := slices.Clone(weights)
	got, e := num.Share(total, weights)
	if want := share(total, given); !slices.Equal(got, want) || e != api.OK {
		t.Errorf("P1.4: Share(%d, %v) is %v, %v, not %v", total, given, got, e, want)
	}
	sum := 0
	for _, part := range got {
		sum += part
	}
	if sum != total {
		t.Errorf("P1.4: the parts %v do not add up to %d", got, total)
	}
	if !slices.Equal(weights, given) {
		t.Errorf("R5: Share has changed its weights %v to %v", given, weights)
	}
}

func TestShare(t *testing.T) {
	for _, x := range []struct {
		total         int
		weights, want []int
	}{
		{7, []int{2, 2, 3}, []int{2, 2, 3}},
		{5, []int{1, 1, 1}, []int{2, 2, 1}},
		{10, []int{1, 1, 1}, []int{4, 3, 3}},
		{0, []int{3, 4}, []int{0, 0}},
		{9, []int{0, 1, 0}, []int{0, 9, 0}},
		{1, []int{0, 0, 1, 1}, []int{0, 0, 1, 0}},
		{3, []int{1, 5, 2}, []int{0, 2, 1}},
		{2, []int{1, 1, 2}, []int{1, 0, 1}},
		{api.MaxNum, []int{1 << 20, 1 << 20, 1 << 20}, []int{366503875926, 366503875925, 366503875925}},
		{api.MaxNum, []int{7}, []int{api.MaxNum}},
	} {
		if got, e := num.Share(x.total, x.weights); !slices.Equal(got, x.want) || e != api.OK {
			t.Errorf("P1.4: Share(%d, %v) is %v, %v", x.total, x.weights, got, e)
		}
	}
}

func TestShareOfManyWeights(t *testing.T) {
	for total := 0; total <= 12; total++ {
		for code := 1; code < 4*4*4*4; code++ {
			checkShare(t, total, []int{code & 3, code >> 2 & 3, code >> 4 & 3, code >> 6})
		}
	}
	full := make([]int, api.MaxWeights)
	rising := make([]int, api.MaxWeights)
	for i := range full {
		full[i] = 1 << 20
		rising[i] = 1<<20 - i*i*977
	}
	for _, total := range []int{1, 15, 16, 17, 1000003, api.MaxNum - 1, api.MaxNum} {
		checkShare(t, total, full)
		checkShare(t, total, rising)
		checkShare(t, total, []int{1 << 20, 1, 0, 1<<20 - 1})
		checkShare(t, total, []int{0, 0, 5})
	}
}

func TestShareRefuses(t *testing.T) {
	for _, x := range []struct {
		total   int
		weights []int
	}{
		{-1, []int{1}}, {api.MaxNum + 1, []int{1}}, {math.MinInt, []int{1}}, {math.MaxInt, []int{1}},
		{1, nil}, {0, []int{}}, {1, slices.Repeat([]int{1}, api.MaxWeights+1)},
		{1, []int{0}}, {0, []int{0, 0}}, {1, []int{1, -1}}, {1, []int{-1, 2}}, {1, []int{5, 1<<20 + 1}},
		{1, []int{math.MinInt, 1}}, {1, []int{math.MaxInt, math.MaxInt, 2}}, {1, make([]int, api.MaxWeights)},
	} {
		if got, e := num.Share(x.total, x.weights); len(got) != 0 || e != api.ErrArg {
			t.Errorf("P1.4: Share(%d, %v) is %v, %v", x.total, x.weights, got, e)
		}
	}
}

func TestShareReturnsNewMemory(t *testing.T) {
	weights := []int{3, 4}
	first, _ := num.Share(7, weights)
	first[0] = 99
	if second, _ := num.Share(7, weights); !slices.Equal(second, []int{3, 4}) || !slices.Equal(weights, []int{3, 4}) {
		t.Errorf("R5: after a change of a result, Share(7, %v) is %v", weights, second)
	}
}
