package blend_test

import (
	"math/big"
	"slices"
	"testing"

	"linoleum/api"
	"linoleum/blend"
)

// checkOutcome compares an outcome with P4.6; amounts and prices are examined word by word, without the package.
func checkOutcome(t *testing.T, b api.Blend) blend.Outcome {
	t.Helper()
	o, e := blend.Solve(b)
	least, can, le := blend.Least(b)
	if e != api.OK || le != api.OK || !arePricesRight(b, o.Prices) {
		t.Fatalf("P4.6: Solve(%v) is %v, %v, and Least %v", b, o, e, le)
	}
	switch o.Kind {
	case api.Optimal:
		if !areRight(b, o.Amounts) || check(b, o.Amounts) != api.OK {
			t.Fatalf("P4.6: Solve(%v) has wrong amounts: %v", b, o)
		}
		cost, ce := answer(costOf(b, o.Amounts))
		if value, be := bound(b, o.Prices); ce != api.OK || be != api.OK || value != cost {
			t.Fatalf("P4.6: Solve(%v) is %v with the cost %v and the bound %v, %v", b, o, cost, value, be)
		}
		if !can || least != cost {
			t.Fatalf("P4.6: Least(%v) is %v, %v, not %v", b, least, can, cost)
		}
	case api.Impossible:
		if !isProof(b, o.Prices) || o.Amounts.Den != 0 || len(o.Amounts.X) != 0 {
			t.Fatalf("P4.6: Solve(%v) has no proof: %v", b, o)
		}
		if can || least != (api.Rat{}) {
			t.Fatalf("P4.6: Least(%v) is %v, %v", b, least, can)
		}
	default:
		t.Fatalf("P4.6: Solve(%v) is %v", b, o)
	}
	return o
}

func TestSolve(t *testing.T) {
	count := map[int]int{}
	for _, b := range slices.Concat(cases(), blends(7, 3000, limits()), blends(8, 3000, size{5, 5, 4, 3})) {
		count[checkOutcome(t, b).Kind]++
	}
	if count[api.Optimal] < 1000 || count[api.Impossible] < 1000 {
		t.Error("the cases do not cover the outcomes:", count)
	}
}

// Blends of few and equal numbers, in which many conditions meet: there the simplex method could run in a circle.
func TestSolveEqualNumbers(t *testing.T) {
	var kinds []api.Cementum
	for n := range 16 {
		kinds = append(kinds, cement(n&1+n>>1&1, n>>2&1, n>>3&1, n&1))
	}
	for _, a := range kinds {
		for _, b := range kinds {
			for _, c := range kinds {
				for n := range 9 {
					lo, width := n%3&1, n/3&1
					checkOutcome(t, api.Blend{Total: 1 + n%3, Cements: []api.Cementum{a, b, c, a}, Lo: []int{lo, 0}, Hi: []int{lo + width, n / 6}})
				}
			}
		}
	}
}

// mixed visits all amounts with a denominator that add up to the total, at most the stocks.
func mixed(b api.Blend, den int, visit func(x api.Amounts)) {
	x := api.Amounts{Den: den, X: make([]int, len(b.Cements))}
	var next func(i, rest int)
	next = func(i, rest int) {
		if i == len(x.X) {
			if rest == 0 {
				visit(x)
			}
			return
		}
		for x.X[i] = 0; x.X[i] <= min(rest, b.Cements[i].Stock*den); x.X[i]++ {
			next(i+1, rest-x.X[i])
		}
	}
	next(0, b.Total*den)
}

func TestNoneIsCheaper(t *testing.T) {
	reached, impossible := 0, 0
	for _, b := range blends(9, 400, size{4, 4, 5, 4}) {
		least, can, _ := blend.Least(b)
		var best *big.Rat
		for den := 1; den <= 4; den++ {
			mixed(b, den, func(x api.Amounts) {
				if cost := costOf(b, x); check(b, x) == api.OK && (best == nil || cost.Cmp(best) < 0) {
					best = cost
				}
			})
		}
		switch {
		case best == nil && !can:
			impossible++
		case best == nil:
		case !can || best.Cmp(exact(least)) < 0:
			t.Errorf("P4.6: Least(%v) is %v, %v, but there is %v", b, least, can, best)
		case best.Cmp(exact(least)) == 0:
			reached++
		}
	}
	if reached < 100 || impossible < 50 {
		t.Errorf("the cases do not cover the outcomes: %d reached, %d impossible", reached, impossible)
	}
}

func TestLeastExamples(t *testing.T) {
	stocks := []api.Cementum{cement(3, 4), cement(10, 9), cement(2, 1)}
	thirds := []api.Cementum{cement(1, 1, 0), cement(1, 2, 3)}
	equal := []api.Cementum{cement(5, 1, 5), cement(5, 0, 5)}
	// Properties near the corners of a cube: the amounts have denominators about as large as they can be.
	cornered := api.Blend{Total: 997, Lo: []int{7, 8, 8}, Hi: []int{7, 8, 8}, Cements: []api.Cementum{
		cement(1000, 963, 20, 19, 0), cement(1000, 997, 20, 0, 20), cement(1000, 1000, 0, 20, 20), cement(1000, 1000, 0, 0, 1),
	}}
	for _, x := range []struct {
		b    api.Blend
		want api.Rat
		can  bool
	}{
		{example(), rat(35, 1), true},
		{changed(func(b *api.Blend) { b.Cements[1].Stock = 5 }), rat(35, 1), true},
		{changed(func(b *api.Blend) { b.Cements[1].Stock = 4 }), rat(0, 0), false},
		{changed(func(b *api.Blend) { b.Lo[0] = 0 }), rat(20, 1), true},
		{changed(func(b *api.Blend) { b.Lo[0] = 7 }), rat(85, 2), true},
		{changed(func(b *api.Blend) { b.Cements[0].Cost = 9 }), rat(50, 1), true},
		{changed(func(b *api.Blend) { b.Cements[0].Cost, b.Hi[0] = 9, 7 }), rat(60, 1), true},
		{plain(7, stocks...), rat(32, 1), true},
		{plain(2, stocks...), rat(2, 1), true},
		{plain(15, stocks...), rat(104, 1), true},
		{plain(16, stocks...), rat(0, 0), false},
		{plain(1, cement(0, 0)), rat(0, 0), false},
		{plain(1, cement(1, 0)), rat(0, 1), true},
		{plain(api.MaxTotal, cement(api.MaxTotal, api.MaxCost)), rat(1000000, 1), true},
		{api.Blend{Total: 1, Cements: thirds, Lo: []int{1}, Hi: []int{1}}, rat(4, 3), true},
		{api.Blend{Total: 5, Cements: equal, Lo: []int{5}, Hi: []int{5}}, rat(0, 1), true},
		{api.Blend{Total: 6, Cements: equal, Lo: []int{5}, Hi: []int{5}}, rat(1, 1), true},
		{api.Blend{Total: 5, Cements: equal, Lo: []int{6}, Hi: []int{6}}, rat(0, 0), false},
		{api.Blend{Total: 5, Cements: equal, Lo: []int{4}, Hi: []int{4}}, rat(0, 0), false},
		{full(), rat(1000000, 1), true},
		{cornered, rat(15060102743, 15220), true},
	} {
		checkOutcome(t, x.b)
		if got, can, e := blend.Least(x.b); got != x.want || can != x.can || e != api.OK {
			t.Errorf("P4.6: Least(%v) is %v, %v, %v, not %v, %v", x.b, got, can, e, x.want, x.can)
		}
	}
}
