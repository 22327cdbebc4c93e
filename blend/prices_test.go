package blend_test

import (
	"math"
	"math/big"
	"math/rand"
	"slices"
	"testing"

	"linoleum/api"
	"linoleum/blend"
)

// examplePrices are the prices of the chapter's second example.
func examplePrices() api.Prices {
	return api.Prices{Den: 4, Y: -4, U: []int{3}, V: []int{0}, W: []int{0, 0}}
}

// gain is that of P4.4 word by word.
func gain(b api.Blend, c api.Prices, cement int) *big.Int {
	all := big.NewInt(int64(c.Y))
	for k, prop := range b.Cements[cement].Props {
		all.Add(all, new(big.Int).Mul(big.NewInt(int64(prop)), big.NewInt(int64(c.U[k]-c.V[k]))))
	}
	return all.Sub(all, big.NewInt(int64(c.W[cement])))
}

// value is that of P4.4 word by word.
func value(b api.Blend, c api.Prices) *big.Rat {
	all := new(big.Rat)
	add := func(factors ...int) {
		product := big.NewRat(1, int64(c.Den))
		for _, f := range factors {
			product.Mul(product, whole(f))
		}
		all.Add(all, product)
	}
	add(c.Y, b.Total)
	for k := range b.Lo {
		add(b.Lo[k], b.Total, c.U[k])
		add(-1, b.Hi[k], b.Total, c.V[k])
	}
	for i, cement := range b.Cements {
		add(-1, cement.Stock, c.W[i])
	}
	return all
}

// bound is P4.4 word by word, for right prices.
func bound(b api.Blend, c api.Prices) (api.Rat, api.Errno) {
	for i, cement := range b.Cements {
		if gain(b, c, i).Cmp(big.NewInt(int64(c.Den*cement.Cost))) > 0 {
			return api.Rat{}, api.ErrRule
		}
	}
	return answer(value(b, c))
}

// isProof is P4.5 word by word, for right prices.
func isProof(b api.Blend, c api.Prices) bool {
	for i := range b.Cements {
		if gain(b, c, i).Sign() > 0 {
			return false
		}
	}
	return value(b, c).Sign() > 0
}

func arePricesRight(b api.Blend, c api.Prices) bool {
	if c.Den < 1 || c.Den > api.MaxDen || c.Y < -api.MaxFactor || c.Y > api.MaxFactor {
		return false
	}
	if len(c.U) != len(b.Lo) || len(c.V) != len(b.Lo) || len(c.W) != len(b.Cements) {
		return false
	}
	return !slices.ContainsFunc(slices.Concat(c.U, c.V, c.W), func(n int) bool { return n < 0 || n > api.MaxFactor })
}

// pricesFor returns right prices: small ones, those at the limits, and those of the solution with small changes.
func pricesFor(random *rand.Rand, b api.Blend) []api.Prices {
	list := []api.Prices{
		evenPrices(b, 1, api.MaxFactor, 0, 0, 0), evenPrices(b, 1, -api.MaxFactor, api.MaxFactor, 0, 0),
		evenPrices(b, 1, -api.MaxFactor, 0, api.MaxFactor, api.MaxFactor), evenPrices(b, api.MaxDen, 0, api.MaxFactor, 0, api.MaxFactor),
		evenPrices(b, api.MaxDen, 0, 0, 0, 0), evenPrices(b, api.MaxDen-1, 1, 0, 0, 0), evenPrices(b, 7, api.MaxFactor, api.MaxFactor, api.MaxFactor, api.MaxFactor),
	}
	for range 10 {
		c := evenPrices(b, 1+random.Intn(4), random.Intn(41)-20, 0, 0, 0)
		for _, part := range [][]int{c.U, c.V, c.W} {
			for i := range part {
				part[i] = max(0, random.Intn(12)-5)
			}
		}
		list = append(list, c)
	}
	for _, change := range []int{-1, 0, 1} {
		o, _ := blend.Solve(b)
		o.Prices.Y += change
		list = append(list, o.Prices)
		o, _ = blend.Solve(b)
		at := random.Intn(len(o.Prices.W))
		o.Prices.W[at] = max(0, o.Prices.W[at]+change)
		list = append(list, o.Prices)
	}
	return list
}

func evenPrices(b api.Blend, den, y, u, v, w int) api.Prices {
	props := len(b.Lo)
	return api.Prices{Den: den, Y: y, U: slices.Repeat([]int{u}, props), V: slices.Repeat([]int{v}, props), W: slices.Repeat([]int{w}, len(b.Cements))}
}

// wrongPrices are not right for a blend with two cements and one property, and the rest of them proves and bounds much.
func wrongPrices() []api.Prices {
	list := []api.Prices{{}}
	for _, den := range []int{0, -1, api.MaxDen + 1, math.MinInt, math.MaxInt} {
		list = append(list, api.Prices{Den: den, Y: -40, U: []int{10}, V: []int{0}, W: []int{0, 40}})
	}
	for _, y := range []int{api.MaxFactor + 1, -api.MaxFactor - 1, math.MinInt, math.MaxInt} {
		list = append(list, api.Prices{Den: 1, Y: y, U: []int{api.MaxFactor}, V: []int{0}, W: []int{api.MaxFactor, api.MaxFactor}})
	}
	for _, n := range []int{-1, api.MaxFactor + 1, math.MinInt, math.MaxInt} {
		list = append(list,
			api.Prices{Den: 1, U: []int{n}, V: []int{0}, W: []int{0, 0}}, api.Prices{Den: 1, U: []int{0}, V: []int{n}, W: []int{0, 0}},
			api.Prices{Den: 1, U: []int{0}, V: []int{0}, W: []int{n, 0}}, api.Prices{Den: 1, U: []int{0}, V: []int{0}, W: []int{0, n}},
		)
	}
	return append(list,
		api.Prices{Den: 1, V: []int{0}, W: []int{0, 0}}, api.Prices{Den: 1, U: []int{0}, W: []int{0, 0}}, api.Prices{Den: 1, U: []int{0}, V: []int{0}},
		api.Prices{Den: 1, U: []int{0, 0}, V: []int{0}, W: []int{0, 0}}, api.Prices{Den: 1, U: []int{0}, V: []int{0, 0}, W: []int{0, 0}},
		api.Prices{Den: 1, U: []int{0}, V: []int{0}, W: []int{0}}, api.Prices{Den: 1, U: []int{0}, V: []int{0}, W: []int{0, 0, 0}},
	)
}

func TestBoundAndIsProof(t *testing.T) {
	random := rand.New(rand.NewSource(6))
	count := map[api.Errno]int{}
	proofs := 0
	for _, b := range cases() {
		for _, c := range pricesFor(random, b) {
			want, we := bound(b, c)
			if got, e := blend.Bound(b, c); got != want || e != we {
				t.Errorf("P4.4: Bound(%v, %v) is %v, %v, not %v, %v", b, c, got, e, want, we)
			}
			is := isProof(b, c)
			if got := blend.IsProof(b, c); got != is {
				t.Errorf("P4.5: IsProof(%v, %v) is %v", b, c, got)
			}
			count[we]++
			if is {
				proofs++
			}
			checkConsequences(t, random, b, c)
		}
	}
	if count[api.OK] < 1000 || count[api.ErrRule] < 1000 || count[api.ErrLarge] < 100 || proofs < 100 {
		t.Error("the cases do not cover the results:", count, proofs)
	}
}

// checkConsequences compares prices with amounts: none that are accepted cost less than the bound, and there are none with a proof.
func checkConsequences(t *testing.T, random *rand.Rand, b api.Blend, c api.Prices) {
	t.Helper()
	least, e := blend.Bound(b, c)
	proof := blend.IsProof(b, c)
	for _, x := range mixtures(random, b) {
		if blend.Check(b, x) != api.OK {
			continue
		}
		if e == api.OK && costOf(b, x).Cmp(exact(least)) < 0 {
			t.Errorf("P4.4: %v with %v costs less than the bound %v of %v", b, x, least, c)
		}
		if proof {
			t.Errorf("P4.5: %v with %v is accepted in spite of the proof %v", b, x, c)
		}
	}
}

func TestBoundExamples(t *testing.T) {
	zero := func(props ...int) api.Blend {
		return api.Blend{Total: 1000, Cements: []api.Cementum{cement(1000, 0, props...)}, Lo: slices.Repeat([]int{20}, len(props)), Hi: slices.Repeat([]int{20}, len(props))}
	}
	large := api.Prices{Den: 1, U: []int{1 << 30}, V: []int{0}, W: []int{0}}
	for _, x := range []struct {
		b    api.Blend
		c    api.Prices
		want api.Rat
		e    api.Errno
	}{
		{example(), examplePrices(), rat(35, 1), api.OK},
		{example(), api.Prices{Den: 4, Y: -3, U: []int{3}, V: []int{0}, W: []int{0, 0}}, rat(0, 0), api.ErrRule},
		{example(), api.Prices{Den: 4, Y: -3, U: []int{3}, V: []int{0}, W: []int{1, 1}}, rat(65, 2), api.OK},
		{example(), api.Prices{Den: 4, Y: -3, U: []int{3}, V: []int{0}, W: []int{1, 0}}, rat(0, 0), api.ErrRule},
		{example(), api.Prices{Den: 4, Y: -3, U: []int{3}, V: []int{0}, W: []int{0, 1}}, rat(0, 0), api.ErrRule},
		{example(), api.Prices{Den: 1, Y: 2, U: []int{0}, V: []int{0}, W: []int{0, 0}}, rat(20, 1), api.OK},
		{example(), api.Prices{Den: 1, Y: 6, U: []int{0}, V: []int{1}, W: []int{0, 0}}, rat(-20, 1), api.OK},
		{example(), api.Prices{Den: 1, Y: 7, U: []int{0}, V: []int{1}, W: []int{0, 0}}, rat(0, 0), api.ErrRule},
		{zero(0), large, rat(0, 0), api.ErrLarge},
		{zero(1), large, rat(0, 0), api.ErrRule},
		{zero(), api.Prices{Den: 1, Y: -1 << 30, W: []int{0}}, rat(-1000<<30, 1), api.OK},
		{zero(), api.Prices{Den: 1, Y: -1 << 30, W: []int{1 << 30}}, rat(0, 0), api.ErrLarge},
		{zero(), api.Prices{Den: 1 << 20, Y: -1 << 30, W: []int{1 << 30}}, rat(-2000<<10, 1), api.OK},
	} {
		if got, e := blend.Bound(x.b, x.c); got != x.want || e != x.e {
			t.Errorf("P4.4: Bound(%v, %v) is %v, %v, not %v, %v", x.b, x.c, got, e, x.want, x.e)
		}
	}
	// 1024 times 2^30 is MaxNum.
	limit := plain(1000, cement(24, 0))
	if got, e := blend.Bound(limit, api.Prices{Den: 1, Y: -1 << 30, W: []int{1 << 30}}); got != rat(-api.MaxNum, 1) || e != api.OK {
		t.Error("P4.4: the smallest bound:", got, e)
	}
	limit.Cements[0].Stock++
	if got, e := blend.Bound(limit, api.Prices{Den: 1, Y: -1 << 30, W: []int{1 << 30}}); got != (api.Rat{}) || e != api.ErrLarge {
		t.Error("P4.4: a bound that is too small:", got, e)
	}
}

func TestIsProofExamples(t *testing.T) {
	four := changed(func(b *api.Blend) { b.Cements[1].Stock = 4 })
	five := changed(func(b *api.Blend) { b.Cements[1].Stock = 5 })
	far := api.Blend{Total: 1000, Cements: []api.Cementum{cement(1000, 7, 0)}, Lo: []int{20}, Hi: []int{20}}
	for _, x := range []struct {
		b  api.Blend
		c  api.Prices
		is bool
	}{
		{example(), examplePrices(), false},
		{four, api.Prices{Den: 1, Y: -4, U: []int{1}, V: []int{0}, W: []int{0, 4}}, true},
		{four, api.Prices{Den: api.MaxDen, Y: -4, U: []int{1}, V: []int{0}, W: []int{0, 4}}, true},
		{four, api.Prices{Den: 1, Y: -4, U: []int{1}, V: []int{0}, W: []int{0, 3}}, false},
		{four, api.Prices{Den: 1, Y: -3, U: []int{1}, V: []int{0}, W: []int{0, 5}}, false},
		{five, api.Prices{Den: 1, Y: -4, U: []int{1}, V: []int{0}, W: []int{0, 4}}, false},
		// The value of a proof need not be that of a valid fraction.
		{far, api.Prices{Den: 1, U: []int{api.MaxFactor}, V: []int{0}, W: []int{0}}, true},
		{far, api.Prices{Den: 1, U: []int{api.MaxFactor}, V: []int{api.MaxFactor}, W: []int{0}}, false},
		{far, api.Prices{Den: 1, Y: 1, U: []int{0}, V: []int{0}, W: []int{0}}, false},
		{plain(2, cement(1, 1)), api.Prices{Den: 1, Y: 1, W: []int{1}}, true},
		{plain(1, cement(1, 1)), api.Prices{Den: 1, Y: 1, W: []int{1}}, false},
	} {
		if is := blend.IsProof(x.b, x.c); is != x.is {
			t.Errorf("P4.5: IsProof(%v, %v) is %v", x.b, x.c, is)
		}
	}
}

func TestWrongPrices(t *testing.T) {
	for _, b := range []api.Blend{example(), changed(func(b *api.Blend) { b.Cements[1].Stock = 4 })} {
		for _, c := range wrongPrices() {
			if got, e := blend.Bound(b, c); got != (api.Rat{}) || e != api.ErrArg {
				t.Errorf("P4.4: Bound(%v, %v) is %v, %v", b, c, got, e)
			}
			if blend.IsProof(b, c) {
				t.Errorf("P4.5: IsProof(%v, %v) is true", b, c)
			}
		}
	}
}
