package num

import (
	"cmp"
	"slices"

	"linoleum/api"
)

const maxWeight = 1 << 20

// Share: see P1.4.
func Share(total int, weights []int) ([]int, api.Errno) {
	sum, ok := sumOfWeights(weights)
	if !ok || total < 0 || total > api.MaxNum {
		return nil, api.ErrArg
	}
	parts := make([]int, len(weights))
	remainders := make([]int, len(weights))
	order := make([]int, len(weights))
	left := total
	for i, weight := range weights {
		parts[i] = total * weight / sum
		remainders[i] = total * weight % sum
		order[i] = i
		left -= parts[i]
	}
	// Stable, so that of equal remainders the smaller index stays first.
	slices.SortStableFunc(order, func(i, j int) int {
		return cmp.Compare(remainders[j], remainders[i])
	})
	for _, i := range order[:left] {
		parts[i]++
	}
	return parts, api.OK
}

// sumOfWeights returns false for weights by which nothing can be divided.
func sumOfWeights(weights []int) (int, bool) {
	if len(weights) > api.MaxWeights {
		return 0, false
	}
	sum := 0
	for _, weight := range weights {
		if weight < 0 || weight > maxWeight {
			return 0, false
		}
		sum += weight
	}
	return sum, sum > 0
}
