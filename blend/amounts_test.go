package blend_test

import (
	"math"
	"math/big"
	"math/rand"
	"slices"
	"testing"

	"linoleum/api"
	"linoleum/blend"
	"linoleum/num"
)

func amounts(den int, x ...int) api.Amounts { return api.Amounts{Den: den, X: x} }

func whole(n int) *big.Rat { return big.NewRat(int64(n), 1) }

// answer is what a call must return for an exact value (big.Rat keeps values in lowest terms).
func answer(x *big.Rat) (api.Rat, api.Errno) {
	if x.Num().CmpAbs(big.NewInt(api.MaxNum)) > 0 || x.Denom().Cmp(big.NewInt(api.MaxDen)) > 0 {
		return api.Rat{}, api.ErrLarge
	}
	return rat(int(x.Num().Int64()), int(x.Denom().Int64())), api.OK
}

// sum returns the sum of the amounts, each times a number of its cement.
func sum(b api.Blend, x api.Amounts, of func(c api.Cementum) int) *big.Rat {
	all := new(big.Rat)
	for i, c := range b.Cements {
		all.Add(all, new(big.Rat).Mul(whole(of(c)), big.NewRat(int64(x.X[i]), int64(x.Den))))
	}
	return all
}

func costOf(b api.Blend, x api.Amounts) *big.Rat {
	return sum(b, x, func(c api.Cementum) int { return c.Cost })
}

func average(b api.Blend, x api.Amounts, prop int) *big.Rat {
	all := sum(b, x, func(c api.Cementum) int { return c.Props[prop] })
	return all.Quo(all, whole(b.Total))
}

// check is P4.3 word by word, for right amounts.
func check(b api.Blend, x api.Amounts) api.Errno {
	for i, c := range b.Cements {
		if big.NewRat(int64(x.X[i]), int64(x.Den)).Cmp(whole(c.Stock)) > 0 {
			return api.ErrShort
		}
	}
	if sum(b, x, func(api.Cementum) int { return 1 }).Cmp(whole(b.Total)) != 0 {
		return api.ErrFit
	}
	for k := range b.Lo {
		a := average(b, x, k)
		if a.Cmp(whole(b.Lo[k])) < 0 || a.Cmp(whole(b.Hi[k])) > 0 {
			return api.ErrRule
		}
	}
	return api.OK
}

func areRight(b api.Blend, x api.Amounts) bool {
	if x.Den < 1 || x.Den > api.MaxDen || len(x.X) != len(b.Cements) {
		return false
	}
	return !slices.ContainsFunc(x.X, func(n int) bool { return n < 0 || n > api.MaxFactor })
}

// mixtures returns right amounts for a blend: many that add up to the total, some at the limits, some at random.
func mixtures(random *rand.Rand, b api.Blend) []api.Amounts {
	n := len(b.Cements)
	list := []api.Amounts{
		{Den: 1, X: make([]int, n)}, {Den: api.MaxDen, X: make([]int, n)},
		{Den: 1, X: slices.Repeat([]int{api.MaxFactor}, n)}, {Den: api.MaxDen, X: slices.Repeat([]int{api.MaxFactor}, n)},
		{Den: api.MaxDen - 1, X: slices.Repeat([]int{api.MaxFactor - 1}, n)},
	}
	for range 12 {
		x := api.Amounts{Den: 1 + random.Intn(3), X: make([]int, n)}
		rest := b.Total * x.Den
		for i := range n - 1 {
			x.X[i] = min(random.Intn(rest+1), b.Cements[i].Stock*x.Den+random.Intn(2))
			rest -= min(rest, x.X[i])
		}
		x.X[n-1] = rest + random.Intn(8)/7
		list = append(list, x)
	}
	if o, _ := blend.Solve(b); o.Kind == api.Optimal {
		list = append(list, o.Amounts)
	}
	return list
}

func wrongAmounts(b api.Blend) []api.Amounts {
	n := len(b.Cements)
	list := []api.Amounts{{}, {Den: 1, X: make([]int, n-1)}, {Den: 1, X: make([]int, n+1)}}
	for _, den := range []int{0, -1, api.MaxDen + 1, math.MinInt, math.MaxInt} {
		list = append(list, api.Amounts{Den: den, X: make([]int, n)})
	}
	for _, amount := range []int{-1, api.MaxFactor + 1, math.MinInt, math.MaxInt} {
		first, last := make([]int, n), make([]int, n)
		first[0], last[n-1] = amount, amount
		list = append(list, api.Amounts{Den: 1, X: first}, api.Amounts{Den: api.MaxDen, X: last})
	}
	return list
}

func TestCostAndProperty(t *testing.T) {
	random := rand.New(rand.NewSource(3))
	count := map[api.Errno]int{}
	for _, b := range cases() {
		for _, x := range mixtures(random, b) {
			want, we := answer(costOf(b, x))
			if got, e := blend.Cost(b, x); got != want || e != we {
				t.Errorf("P4.2: Cost(%v, %v) is %v, %v, not %v, %v", b, x, got, e, want, we)
			}
			for k := range b.Lo {
				want, we := answer(average(b, x, k))
				if got, e := blend.Property(b, x, k); got != want || e != we {
					t.Errorf("P4.2: Property(%v, %v, %d) is %v, %v, not %v, %v", b, x, k, got, e, want, we)
				}
				count[we]++
			}
			count[we]++
			for _, k := range []int{-1, len(b.Lo), math.MinInt, math.MaxInt} {
				if got, e := blend.Property(b, x, k); got != (api.Rat{}) || e != api.ErrNone {
					t.Errorf("P4.2: Property(%v, %v, %d) is %v, %v", b, x, k, got, e)
				}
			}
		}
	}
	if count[api.OK] < 1000 || count[api.ErrLarge] < 100 {
		t.Error("the cases do not cover the results:", count)
	}
}

func TestCostAndPropertyAtTheLimits(t *testing.T) {
	dear := plain(1, cement(1, 1000), cement(1, 1))
	for _, x := range []struct {
		x    api.Amounts
		want api.Rat
		e    api.Errno
	}{
		{amounts(1, 1<<30, 1<<30), rat(1001<<30, 1), api.OK},
		{amounts(1, 1<<30, 0), rat(1000<<30, 1), api.OK},
		{amounts(1<<20, 1, 1), rat(1001, 1<<20), api.OK},
		{amounts(1<<20, 0, 0), rat(0, 1), api.OK},
		{amounts(1<<20, 1<<30, 1<<30), rat(1001<<10, 1), api.OK},
	} {
		if got, e := blend.Cost(dear, x.x); got != x.want || e != x.e {
			t.Errorf("P4.2: Cost(%v, %v) is %v, %v", dear, x.x, got, e)
		}
	}
	// 1024 times 2^30 is MaxNum: one unit of cost more is too large.
	two := plain(1, cement(1, 1000), cement(1, 24), cement(1, 1))
	if got, e := blend.Cost(two, amounts(1, 1<<30, 1<<30, 0)); got != rat(api.MaxNum, 1) || e != api.OK {
		t.Error("P4.2: the greatest cost:", got, e)
	}
	if got, e := blend.Cost(two, amounts(1, 1<<30, 1<<30, 1)); got != (api.Rat{}) || e != api.ErrLarge {
		t.Error("P4.2: a cost that is too large:", got, e)
	}
	if got, e := blend.Property(example(), amounts(1<<20, 5, 0), 0); got != rat(1, 1<<19) || e != api.OK {
		t.Error("P4.2: a small average:", got, e)
	}
	light := changed(func(b *api.Blend) { b.Total, b.Cements[0].Props[0] = 1, 1 })
	if got, e := blend.Property(light, amounts(1<<20, 1, 0), 0); got != rat(1, 1<<20) || e != api.OK {
		t.Error("P4.2: the smallest average:", got, e)
	}
	if got, e := blend.Property(example(), amounts(1<<20, 1, 0), 0); got != (api.Rat{}) || e != api.ErrLarge {
		t.Error("P4.2: an average that is too small:", got, e)
	}
}

func TestCheck(t *testing.T) {
	random := rand.New(rand.NewSource(4))
	count := map[api.Errno]int{}
	for _, b := range cases() {
		for _, x := range mixtures(random, b) {
			want := check(b, x)
			if e := blend.Check(b, x); e != want {
				t.Errorf("P4.3: Check(%v, %v) is %v, not %v", b, x, e, want)
			}
			count[want]++
		}
	}
	if count[api.OK] < 100 || count[api.ErrShort] < 100 || count[api.ErrFit] < 100 || count[api.ErrRule] < 100 {
		t.Error("the cases do not cover the results:", count)
	}
}

func TestCheckExamples(t *testing.T) {
	three := api.Blend{Total: 2, Cements: []api.Cementum{cement(1, 1, 0, 5), cement(2, 1, 4, 5)}, Lo: []int{2, 5}, Hi: []int{3, 5}}
	for _, x := range []struct {
		b api.Blend
		x api.Amounts
		e api.Errno
	}{
		{example(), amounts(1, 5, 5), api.OK},
		{example(), amounts(2, 10, 10), api.OK},
		{example(), amounts(1, 0, 10), api.OK},
		{example(), amounts(3, 16, 14), api.ErrRule},
		{example(), amounts(3, 15, 15), api.OK},
		{example(), amounts(1, 11, 0), api.ErrShort},
		{example(), amounts(1, 0, 11), api.ErrShort},
		{example(), amounts(2, 0, 21), api.ErrShort},
		{example(), amounts(1, 9, 0), api.ErrFit},
		{example(), amounts(1, 5, 6), api.ErrFit},
		{example(), amounts(1, 10, 0), api.ErrRule},
		{three, amounts(1, 1, 1), api.OK},
		{three, amounts(2, 1, 3), api.OK},
		{three, amounts(4, 1, 7), api.ErrRule},
		{three, amounts(4, 5, 3), api.ErrShort},
		{api.Blend{Total: 2, Cements: three.Cements, Lo: []int{2, 6}, Hi: []int{3, 6}}, amounts(1, 1, 1), api.ErrRule},
	} {
		if e := blend.Check(x.b, x.x); e != x.e {
			t.Errorf("P4.3: Check(%v, %v) is %v, not %v", x.b, x.x, e, x.e)
		}
	}
}

func TestWrongAmounts(t *testing.T) {
	for _, b := range []api.Blend{example(), full(), plain(1, cement(1, 1))} {
		for _, x := range wrongAmounts(b) {
			for _, c := range calls(x, api.Prices{}, -1, 0) {
				if !slices.Contains([]string{"Cost", "Property", "Check", "Whole"}, c.name) {
					continue
				}
				if got := c.do(b); !refused(got, api.ErrArg) {
					t.Errorf("P4.2, P4.3, P4.7: %s(%v) with %v is %v", c.name, b, x, got)
				}
			}
		}
	}
}

// shares is P4.7 word by word, for amounts that Check accepts.
func shares(b api.Blend, x api.Amounts) ([]int, api.Errno) {
	common := new(big.Int)
	for _, n := range x.X {
		common.GCD(nil, nil, common, big.NewInt(int64(n)))
	}
	var weights []int
	for _, n := range x.X {
		weight := n / int(common.Int64())
		if weight > 1<<20 {
			return nil, api.ErrLarge
		}
		weights = append(weights, weight)
	}
	return num.Share(b.Total, weights)
}

func TestWhole(t *testing.T) {
	random := rand.New(rand.NewSource(5))
	count := map[api.Errno]int{}
	for _, b := range cases() {
		for _, x := range mixtures(random, b) {
			var want []int
			we := check(b, x)
			if we == api.OK {
				want, we = shares(b, x)
			}
			if got, e := blend.Whole(b, x); !slices.Equal(got, want) || e != we {
				t.Errorf("P4.7: Whole(%v, %v) is %v, %v, not %v, %v", b, x, got, e, want, we)
			}
			count[we]++
		}
	}
	if count[api.OK] < 100 || count[api.ErrShort] < 100 || count[api.ErrFit] < 100 || count[api.ErrRule] < 100 {
		t.Error("the cases do not cover the results:", count)
	}
}

func TestWholeExamples(t *testing.T) {
	// 17 times 61681 is 2^20 + 1, and 6 times 174763 is 2^20 + 2.
	seventeen, six := plain(17, cement(17, 1), cement(17, 1)), plain(6, cement(6, 1), cement(6, 1))
	three := plain(5, cement(9, 1), cement(9, 1), cement(9, 1))
	for _, x := range []struct {
		b    api.Blend
		x    api.Amounts
		want []int
		e    api.Errno
	}{
		{example(), amounts(2, 9, 11), []int{5, 5}, api.OK},
		{example(), amounts(1, 4, 6), []int{4, 6}, api.OK},
		{example(), amounts(1, 0, 10), []int{0, 10}, api.OK},
		{example(), amounts(1<<20, 5<<20, 5<<20), []int{5, 5}, api.OK},
		{example(), amounts(1<<20, 5<<20-1, 5<<20+1), nil, api.ErrLarge},
		{three, amounts(3, 5, 5, 5), []int{2, 2, 1}, api.OK},
		{three, amounts(3, 4, 0, 11), []int{1, 0, 4}, api.OK},
		{plain(1000, cement(1000, 1)), amounts(1<<20, 1000<<20), []int{1000}, api.OK},
		{seventeen, amounts(61681, 1<<20, 1), []int{17, 0}, api.OK},
		{seventeen, amounts(61681, 1, 1<<20), []int{0, 17}, api.OK},
		{six, amounts(174763, 1<<20+1, 1), nil, api.ErrLarge},
		{six, amounts(174763, 1, 1<<20+1), nil, api.ErrLarge},
		{six, amounts(174763, 2, 1<<20), []int{0, 6}, api.OK},
		{six, amounts(174763, 3, 1<<20+1), nil, api.ErrFit},
	} {
		if got, e := blend.Whole(x.b, x.x); !slices.Equal(got, x.want) || e != x.e {
			t.Errorf("P4.7: Whole(%v, %v) is %v, %v, not %v, %v", x.b, x.x, got, e, x.want, x.e)
		}
	}
}
