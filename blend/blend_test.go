package blend_test

import (
	"math"
	"math/big"
	"math/rand"
	"reflect"
	"slices"
	"testing"

	"linoleum/api"
	"linoleum/blend"
)

func rat(n, d int) api.Rat { return api.Rat{Num: n, Den: d} }

func cement(stock, cost int, props ...int) api.Cementum {
	return api.Cementum{Stock: stock, Cost: cost, Props: props}
}

// example is the blend of the chapter's first example.
func example() api.Blend {
	return api.Blend{Total: 10, Cements: []api.Cementum{cement(10, 2, 4), cement(10, 5, 8)}, Lo: []int{6}, Hi: []int{8}}
}

// plain has cements without properties.
func plain(total int, cements ...api.Cementum) api.Blend {
	return api.Blend{Total: total, Cements: cements}
}

// changed is the example with a change.
func changed(change func(b *api.Blend)) api.Blend {
	b := example()
	change(&b)
	return b
}

func copyOf(b api.Blend) api.Blend {
	b.Cements = slices.Clone(b.Cements)
	for i := range b.Cements {
		b.Cements[i].Props = slices.Clone(b.Cements[i].Props)
	}
	b.Lo, b.Hi = slices.Clone(b.Lo), slices.Clone(b.Hi)
	return b
}

// same compares blends; a nil slice and an empty one are the same (R4).
func same(a, b api.Blend) bool {
	return a.Total == b.Total && slices.Equal(a.Lo, b.Lo) && slices.Equal(a.Hi, b.Hi) &&
		slices.EqualFunc(a.Cements, b.Cements, func(x, y api.Cementum) bool {
			return x.Stock == y.Stock && x.Cost == y.Cost && slices.Equal(x.Props, y.Props)
		})
}

// size says how large the numbers of random blends are.
type size struct {
	total, stock, cost, prop int
}

func limits() size { return size{api.MaxTotal, api.MaxTotal, api.MaxCost, api.MaxProp} }

// blends returns valid blends with bounds near averages that can be had if the stocks are large enough.
func blends(seed int64, count int, most size) []api.Blend {
	random := rand.New(rand.NewSource(seed))
	var list []api.Blend
	for range count {
		list = append(list, randomBlend(random, most))
	}
	return list
}

func randomBlend(random *rand.Rand, most size) api.Blend {
	b := api.Blend{Total: 1 + upTo(random, most.total-1)}
	cements, props := 1+random.Intn(api.MaxCements), random.Intn(api.MaxProps+1)
	weights := make([]int, cements)
	for i := range weights {
		c := cement(upTo(random, most.stock), upTo(random, most.cost))
		for range props {
			c.Props = append(c.Props, upTo(random, most.prop))
		}
		b.Cements = append(b.Cements, c)
		weights[i] = random.Intn(4)
	}
	weights[0]++
	for k := range props {
		sum, all := 0, 0
		for i, c := range b.Cements {
			sum += weights[i] * c.Props[k]
			all += weights[i]
		}
		b.Lo = append(b.Lo, sum/all)
		b.Hi = append(b.Hi, min(api.MaxProp, sum/all+random.Intn(3)))
	}
	return b
}

// upTo returns the ends more often than the numbers between them.
func upTo(random *rand.Rand, most int) int {
	switch random.Intn(6) {
	case 0:
		return 0
	case 1:
		return most
	}
	return random.Intn(most + 1)
}

// cases returns the blends with which every function is compared to its promise, word by word.
func cases() []api.Blend {
	list := []api.Blend{example(), example(), full()}
	list[1].Cements[1].Stock = 4
	list = append(list, blends(1, 300, size{4, 4, 3, 4})...)
	return append(list, blends(2, 300, limits())...)
}

// full has all numbers at their limits.
func full() api.Blend {
	b := api.Blend{Total: api.MaxTotal, Lo: []int{0, 20, 0}, Hi: []int{0, 20, 20}}
	for range api.MaxCements {
		b.Cements = append(b.Cements, cement(api.MaxTotal, api.MaxCost, 0, api.MaxProp, api.MaxProp))
	}
	return b
}

func badBlends() []api.Blend {
	var list []api.Blend
	for _, n := range []int{0, -1, api.MaxTotal + 1, math.MinInt, math.MaxInt} {
		list = append(list, changed(func(b *api.Blend) { b.Total = n }))
	}
	for _, n := range []int{-1, api.MaxTotal + 1, math.MinInt, math.MaxInt} {
		list = append(list, changed(func(b *api.Blend) { b.Cements[0].Stock = n }), changed(func(b *api.Blend) { b.Cements[1].Stock = n }))
	}
	for _, n := range []int{-1, api.MaxCost + 1, math.MinInt, math.MaxInt} {
		list = append(list, changed(func(b *api.Blend) { b.Cements[0].Cost = n }), changed(func(b *api.Blend) { b.Cements[1].Cost = n }))
	}
	for _, n := range []int{-1, api.MaxProp + 1, math.MinInt, math.MaxInt} {
		list = append(list,
			changed(func(b *api.Blend) { b.Cements[0].Props[0] = n }), changed(func(b *api.Blend) { b.Cements[1].Props[0] = n }),
			changed(func(b *api.Blend) { b.Lo[0] = n }), changed(func(b *api.Blend) { b.Hi[0] = n }),
			changed(func(b *api.Blend) { b.Lo[0], b.Hi[0] = n, n }),
		)
	}
	return append(list, badLists()...)
}

// badLists are blends with lists of a wrong length or order.
func badLists() []api.Blend {
	four := api.Blend{Total: 1, Cements: []api.Cementum{cement(1, 1, 1, 1, 1, 1)}, Lo: []int{1, 1, 1, 1}, Hi: []int{1, 1, 1, 1}}
	last := full()
	last.Cements[4].Props[2]++
	crossed := full()
	crossed.Lo[2], crossed.Hi[2] = 5, 4
	return []api.Blend{
		{}, plain(10), four, last, crossed,
		plain(10, slices.Repeat([]api.Cementum{cement(10, 1)}, api.MaxCements+1)...),
		changed(func(b *api.Blend) { b.Cements = []api.Cementum{} }),
		changed(func(b *api.Blend) { b.Hi = nil }),
		changed(func(b *api.Blend) { b.Lo = nil }),
		changed(func(b *api.Blend) { b.Hi = []int{8, 8} }),
		changed(func(b *api.Blend) { b.Lo = []int{6, 6} }),
		changed(func(b *api.Blend) { b.Lo, b.Hi = []int{6, 6}, []int{8, 8} }),
		changed(func(b *api.Blend) { b.Lo, b.Hi = nil, nil }),
		changed(func(b *api.Blend) { b.Lo[0] = 9 }),
		changed(func(b *api.Blend) { b.Hi[0] = 5 }),
		changed(func(b *api.Blend) { b.Cements[0].Props = nil }),
		changed(func(b *api.Blend) { b.Cements[1].Props = nil }),
		changed(func(b *api.Blend) { b.Cements[1].Props = []int{8, 8} }),
	}
}

func TestValidate(t *testing.T) {
	good := append(cases(),
		plain(1, cement(0, 0)), plain(api.MaxTotal, cement(api.MaxTotal, api.MaxCost)),
		plain(1, slices.Repeat([]api.Cementum{cement(1, 1)}, api.MaxCements)...),
		changed(func(b *api.Blend) { b.Lo[0], b.Hi[0] = 8, 8 }), changed(func(b *api.Blend) { b.Lo[0], b.Hi[0] = 0, 0 }),
		changed(func(b *api.Blend) { b.Lo[0], b.Hi[0] = 20, 20 }), changed(func(b *api.Blend) { b.Cements[0].Props[0] = 20 }),
		api.Blend{Total: 1, Cements: []api.Cementum{{Props: []int{}}}, Lo: []int{}},
	)
	for _, b := range good {
		if e := blend.Validate(b); e != api.OK {
			t.Errorf("P4.1: Validate(%v) is %v", b, e)
		}
	}
	for _, b := range badBlends() {
		if e := blend.Validate(b); e != api.ErrArg {
			t.Errorf("P4.1: Validate(%v) is %v", b, e)
		}
	}
}

// call returns the results of a call; the last one is its error.
type call struct {
	name string
	do   func(b api.Blend) []any
}

func results(values ...any) []any { return values }

// calls has every function that returns an error, but for Validate.
func calls(x api.Amounts, c api.Prices, n, by int) []call {
	return []call{
		{"Cost", func(b api.Blend) []any { return results(blend.Cost(b, x)) }},
		{"Property", func(b api.Blend) []any { return results(blend.Property(b, x, n)) }},
		{"Check", func(b api.Blend) []any { return results(blend.Check(b, x)) }},
		{"Bound", func(b api.Blend) []any { return results(blend.Bound(b, c)) }},
		{"Solve", func(b api.Blend) []any { return results(blend.Solve(b)) }},
		{"Least", func(b api.Blend) []any { return results(blend.Least(b)) }},
		{"Whole", func(b api.Blend) []any { return results(blend.Whole(b, x)) }},
		{"Without", func(b api.Blend) []any { return results(blend.Without(b, n)) }},
		{"Widen", func(b api.Blend) []any { return results(blend.Widen(b, n, by)) }},
	}
}

// refused reports whether the results are zero values (R3; a slice may be empty) and the error e.
func refused(values []any, e api.Errno) bool {
	for _, v := range values[:len(values)-1] {
		value := reflect.ValueOf(v)
		if !value.IsZero() && !(value.Kind() == reflect.Slice && value.Len() == 0) {
			return false
		}
	}
	return values[len(values)-1] == e
}

func TestErrorsOfValidateFirst(t *testing.T) {
	good := calls(api.Amounts{Den: 1, X: []int{5, 5}}, api.Prices{Den: 4, Y: -4, U: []int{3}, V: []int{0}, W: []int{0, 0}}, 0, 1)
	bad := calls(api.Amounts{}, api.Prices{}, -1, -1)
	for _, b := range badBlends() {
		for _, c := range append(good, bad...) {
			if got := c.do(b); !refused(got, api.ErrArg) {
				t.Errorf("R2, R3: %s(%v) is %v", c.name, b, got)
			}
		}
		proof := api.Prices{Den: 1, Y: 1, U: make([]int, len(b.Lo)), V: make([]int, len(b.Lo)), W: slices.Repeat([]int{api.MaxFactor}, len(b.Cements))}
		if blend.IsProof(b, proof) || blend.IsProof(b, api.Prices{}) {
			t.Errorf("R2: IsProof(%v, ..) is true", b)
		}
	}
}

func TestArgumentsAreNotChanged(t *testing.T) {
	for _, b := range cases() {
		before := copyOf(b)
		x := api.Amounts{Den: 1, X: make([]int, len(b.Cements))}
		if o, _ := blend.Solve(b); o.Kind == api.Optimal {
			x = o.Amounts
		}
		c := api.Prices{Den: 1, U: make([]int, len(b.Lo)), V: make([]int, len(b.Lo)), W: make([]int, len(b.Cements))}
		amounts, prices := slices.Clone(x.X), slices.Concat(c.U, c.V, c.W)
		for _, f := range calls(x, c, 0, 3) {
			first := f.do(b)
			if second := f.do(b); !reflect.DeepEqual(first, second) {
				t.Errorf("R11: %s(%v) is %v, and then %v", f.name, b, first, second)
			}
			if !same(b, before) || !slices.Equal(x.X, amounts) || !slices.Equal(slices.Concat(c.U, c.V, c.W), prices) {
				t.Fatalf("R5: %s has changed an argument: %v, %v, %v", f.name, b, x, c)
			}
		}
	}
}

// spoil changes all memory of a blend.
func spoil(b api.Blend) {
	for i := range b.Cements {
		for k := range b.Cements[i].Props {
			b.Cements[i].Props[k] = -1
		}
		b.Cements[i] = api.Cementum{Stock: -1}
	}
	for k := range b.Lo {
		b.Lo[k], b.Hi[k] = -1, -1
	}
}

func TestResultsAreNewMemory(t *testing.T) {
	for _, b := range cases() {
		before := copyOf(b)
		for n := range api.MaxCements {
			less, _ := blend.Without(b, n)
			spoil(less)
			if !same(b, before) {
				t.Fatalf("R5: the result of Without shares memory with its argument: %v", b)
			}
			wide, _ := blend.Widen(b, n, 0)
			spoil(wide)
			if !same(b, before) {
				t.Fatalf("R5: the result of Widen shares memory with its argument: %v", b)
			}
		}
	}
}

func TestWithout(t *testing.T) {
	for _, b := range cases() {
		for n, c := range b.Cements {
			got, e := blend.Without(b, n)
			if len(b.Cements) == 1 {
				if !same(got, api.Blend{}) || e != api.ErrShort {
					t.Errorf("P4.8: Without(%v, %d) is %v, %v", b, n, got, e)
				}
				continue
			}
			if e != api.OK || len(got.Cements) != len(b.Cements)-1 {
				t.Fatalf("P4.8: Without(%v, %d) is %v, %v", b, n, got, e)
			}
			back := copyOf(got)
			back.Cements = slices.Insert(back.Cements, n, c)
			if !same(back, b) {
				t.Errorf("P4.8: Without(%v, %d) is %v", b, n, got)
			}
			checkLeast(t, "P4.8: with one cement less", b, got)
		}
		for _, n := range []int{-1, len(b.Cements), math.MinInt, math.MaxInt} {
			if got, e := blend.Without(b, n); !same(got, api.Blend{}) || e != api.ErrNone {
				t.Errorf("P4.8: Without(%v, %d) is %v, %v", b, n, got, e)
			}
		}
	}
}

func TestWiden(t *testing.T) {
	for _, b := range cases() {
		for prop := range b.Lo {
			for by := range api.MaxProp + 1 {
				want := copyOf(b)
				for range by {
					if want.Lo[prop] > 0 {
						want.Lo[prop]--
					}
					if want.Hi[prop] < api.MaxProp {
						want.Hi[prop]++
					}
				}
				got, e := blend.Widen(b, prop, by)
				if !same(got, want) || e != api.OK {
					t.Fatalf("P4.8: Widen(%v, %d, %d) is %v, %v", b, prop, by, got, e)
				}
				checkLeast(t, "P4.8: before the bounds are widened", got, b)
			}
			for _, by := range []int{-1, api.MaxProp + 1, math.MinInt, math.MaxInt} {
				if got, e := blend.Widen(b, prop, by); !same(got, api.Blend{}) || e != api.ErrArg {
					t.Errorf("P4.8: Widen(%v, %d, %d) is %v, %v", b, prop, by, got, e)
				}
			}
		}
		for _, prop := range []int{-1, len(b.Lo), math.MinInt, math.MaxInt} {
			for _, by := range []int{0, 3, -1, api.MaxProp + 1} {
				if got, e := blend.Widen(b, prop, by); !same(got, api.Blend{}) || e != api.ErrNone {
					t.Errorf("P4.8: Widen(%v, %d, %d) is %v, %v", b, prop, by, got, e)
				}
			}
		}
	}
}

// checkLeast reports a blend whose least cost is below that of another with weaker conditions.
func checkLeast(t *testing.T, when string, weak, strict api.Blend) {
	t.Helper()
	x, can, _ := blend.Least(weak)
	y, strictly, _ := blend.Least(strict)
	if strictly && (!can || exact(y).Cmp(exact(x)) < 0) {
		t.Errorf("%s, %v has the least cost %v, and %v has %v", when, strict, y, weak, x)
	}
}

func exact(r api.Rat) *big.Rat { return big.NewRat(int64(r.Num), int64(r.Den)) }
