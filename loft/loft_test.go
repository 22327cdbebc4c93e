package loft_test

import (
	"math"
	"math/rand"
	"slices"
	"testing"

	"linoleum/api"
	"linoleum/loft"
)

// exampleLoft has the rates of the chapter's example.
func exampleLoft(poles int) api.Loft { return withRates(poles, 0, 1, 2, 4, 8) }

func withRates(poles int, rates ...int) api.Loft { return api.Loft{Poles: poles, Rates: rates} }

// exampleGoods are the goods of the chapter's example.
func exampleGoods() []api.Goods {
	g := api.Goods{Poles: 6, Need: 7, Most: 10, Due: 3}
	return []api.Goods{g, g}
}

func hot() api.Loft { return withRates(api.MaxPoles, 9, 9, 9, 9, 9) }

func cold() api.Loft { return withRates(1, 0, 0, 0, 0, 0) }

func randomLofts(random *rand.Rand, count, poles int) []api.Loft {
	var list []api.Loft
	for range count {
		rates := make([]int, api.MaxHeat+1)
		for i := range rates {
			rates[i] = random.Intn(api.MaxRate + 1)
		}
		slices.Sort(rates)
		list = append(list, withRates(1+random.Intn(poles), rates...))
	}
	return list
}

// size says how large the numbers of random goods are.
type size struct {
	count, poles, ripe, days int
}

func randomGoods(random *rand.Rand, most size) []api.Goods {
	var list []api.Goods
	for range random.Intn(most.count + 1) {
		g := api.Goods{Poles: 1 + random.Intn(most.poles), Need: 1 + random.Intn(most.ripe), Ready: random.Intn(most.days)}
		g.Most = min(api.MaxRipe, g.Need+random.Intn(most.ripe))
		g.Due = min(api.MaxDue, g.Ready+random.Intn(most.days))
		list = append(list, g)
	}
	return list
}

// order is lofts and the goods that they are to ripen.
type order struct {
	lofts []api.Loft
	goods []api.Goods
}

// orders returns random orders, from those for which there is much room to those for which there is none.
func orders(seed int64, count int) []order {
	random := rand.New(rand.NewSource(seed))
	sizes := []size{{8, 4, 12, 8}, {8, 12, 30, 20}, {8, 6, 20, 30}, {8, 40, 60, 60}, {3, 3, 8, 4}}
	list := []order{
		{[]api.Loft{exampleLoft(10)}, exampleGoods()}, {[]api.Loft{exampleLoft(12)}, exampleGoods()},
		{[]api.Loft{exampleLoft(6), exampleLoft(6)}, exampleGoods()}, {[]api.Loft{hot(), cold(), exampleLoft(1)}, nil},
	}
	for i := range count {
		most := sizes[i%len(sizes)]
		list = append(list, order{randomLofts(random, 1+random.Intn(api.MaxLofts), min(api.MaxPoles, 2*most.poles)), randomGoods(random, most)})
	}
	return list
}

func badLofts() [][]api.Loft {
	list := [][]api.Loft{nil, {}, {exampleLoft(1), exampleLoft(1), exampleLoft(1), exampleLoft(1)}, make([]api.Loft, 1000)}
	var bad []api.Loft
	for _, n := range []int{0, -1, api.MaxPoles + 1, math.MinInt, math.MaxInt} {
		bad = append(bad, exampleLoft(n))
	}
	for _, rates := range [][]int{
		nil, {1}, {0, 1, 2, 4}, {0, 1, 2, 4, 8, 9}, {-1, 1, 2, 4, 8}, {0, 1, 2, 4, 10}, {0, 1, 2, 4, math.MaxInt}, {math.MinInt, 1, 2, 4, 8},
		{1, 0, 2, 4, 8}, {0, 2, 1, 4, 8}, {0, 1, 4, 2, 8}, {0, 1, 2, 8, 4}, {9, 8, 7, 6, 5},
	} {
		bad = append(bad, withRates(5, rates...))
	}
	for _, f := range bad {
		list = append(list, []api.Loft{f}, []api.Loft{f, exampleLoft(3)}, []api.Loft{exampleLoft(3), hot(), f})
	}
	return list
}

// badOneGoods returns goods each of which has one field that is wrong.
func badOneGoods() []api.Goods {
	good := api.Goods{Poles: 5, Need: 10, Most: 20, Ready: 10, Due: 20}
	var list []api.Goods
	with := func(change func(g *api.Goods)) {
		g := good
		change(&g)
		list = append(list, g)
	}
	for _, n := range []int{0, -1, api.MaxPoles + 1, math.MinInt, math.MaxInt} {
		with(func(g *api.Goods) { g.Poles = n })
	}
	for _, n := range []int{0, -1, 21, api.MaxRipe + 1, math.MinInt, math.MaxInt} {
		with(func(g *api.Goods) { g.Need = n })
	}
	for _, n := range []int{9, 0, -1, api.MaxRipe + 1, math.MinInt, math.MaxInt} {
		with(func(g *api.Goods) { g.Most = n })
	}
	for _, n := range []int{-1, 21, api.MaxDue + 1, math.MinInt, math.MaxInt} {
		with(func(g *api.Goods) { g.Ready = n })
	}
	for _, n := range []int{9, -1, api.MaxDue + 1, math.MinInt, math.MaxInt} {
		with(func(g *api.Goods) { g.Due = n })
	}
	with(func(g *api.Goods) { g.Need, g.Most = api.MaxRipe+1, api.MaxRipe+1 })
	with(func(g *api.Goods) { g.Need, g.Most = 0, 0 })
	with(func(g *api.Goods) { g.Ready, g.Due = api.MaxDue+1, api.MaxDue+1 })
	with(func(g *api.Goods) { g.Ready, g.Due = -1, -1 })
	return list
}

type badGoods struct {
	goods []api.Goods
	e     api.Errno
}

func badGoodsLists() []badGoods {
	list := []badGoods{
		{slices.Repeat(exampleGoods(), 5), api.ErrLarge},
		{slices.Repeat(exampleGoods()[:1], api.MaxGoods+1), api.ErrLarge},
		{make([]api.Goods, api.MaxGoods+1), api.ErrLarge}, // before ErrArg
		{make([]api.Goods, api.MaxGoods), api.ErrArg},
	}
	for _, g := range badOneGoods() {
		list = append(list, badGoods{[]api.Goods{g}, api.ErrArg}, badGoods{append(exampleGoods(), g), api.ErrArg}, badGoods{append([]api.Goods{g}, exampleGoods()...), api.ErrArg})
	}
	return list
}

func TestValidateLofts(t *testing.T) {
	for _, l := range [][]api.Loft{
		{exampleLoft(1)}, {exampleLoft(api.MaxPoles)}, {hot()}, {cold()}, {hot(), cold()}, {hot(), hot(), hot()}, {withRates(1, 0, 0, 5, 5, 9)},
	} {
		if e := loft.ValidateLofts(l); e != api.OK {
			t.Errorf("P6.4: ValidateLofts(%v) is %v", l, e)
		}
	}
	for _, l := range badLofts() {
		if e := loft.ValidateLofts(l); e != api.ErrArg {
			t.Errorf("P6.4: ValidateLofts(%v) is %v", l, e)
		}
	}
}

func TestValidateGoods(t *testing.T) {
	for _, l := range [][]api.Goods{
		nil, {}, exampleGoods(), slices.Repeat(exampleGoods(), api.MaxGoods/2),
		{{Poles: 1, Need: 1, Most: 1}},
		{{Poles: api.MaxPoles, Need: api.MaxRipe, Most: api.MaxRipe, Ready: api.MaxDue, Due: api.MaxDue}},
		{{Poles: 1, Need: 1, Most: api.MaxRipe, Ready: 0, Due: api.MaxDue}},
	} {
		if e := loft.ValidateGoods(l); e != api.OK {
			t.Errorf("P6.6: ValidateGoods(%v) is %v", l, e)
		}
	}
	for _, x := range badGoodsLists() {
		if e := loft.ValidateGoods(x.goods); e != x.e {
			t.Errorf("P6.6: ValidateGoods(%v) is %v, not %v", x.goods, e, x.e)
		}
	}
}

// refused reports for each function of lofts and goods whether all results but the error are zero values, and the error.
func refused(lofts []api.Loft, goods []api.Goods) map[string]func() (bool, api.Errno) {
	return map[string]func() (bool, api.Errno){
		"Check": func() (bool, api.Errno) { return true, loft.Check(lofts, goods, nil) },
		"Check of a wrong plan": func() (bool, api.Errno) {
			return true, loft.Check(lofts, goods, []api.Load{{Loft: 9}})
		},
		"Plan": func() (bool, api.Errno) {
			plan, left, e := loft.Plan(lofts, goods)
			return len(plan) == 0 && len(left) == 0, e
		},
		"Prove": func() (bool, api.Errno) {
			w, ok, e := loft.Prove(lofts, goods)
			return w == loft.Window{} && !ok, e
		},
	}
}

func TestErrorsOfLoftsAndGoodsFirst(t *testing.T) {
	never := loft.Window{From: 0, To: api.MaxDue}
	expect := func(lofts []api.Loft, goods []api.Goods, want api.Errno) {
		t.Helper()
		for name, call := range refused(lofts, goods) {
			if zero, e := call(); !zero || e != want {
				t.Errorf("P6.6, R3: %s of %v, %v is %v, not %v, and all other results zero: %v", name, lofts, goods, e, want, zero)
			}
		}
		if loft.IsProof(lofts, goods, never) {
			t.Errorf("P6.9: IsProof(%v, %v) is true", lofts, goods)
		}
	}
	tooMuch := []api.Goods{{Poles: 40, Need: 60, Most: 60, Due: 1}}
	for _, lofts := range badLofts() {
		for _, goods := range [][]api.Goods{nil, exampleGoods(), tooMuch, make([]api.Goods, 1), make([]api.Goods, 9)} {
			expect(lofts, goods, api.ErrArg)
		}
		if n, ok, e := loft.Days(lofts, exampleGoods()[0]); n != 0 || ok || e != api.ErrArg {
			t.Errorf("P6.9: Days(%v) is %v, %v, %v", lofts, n, ok, e)
		}
	}
	for _, x := range badGoodsLists() {
		expect([]api.Loft{exampleLoft(5)}, x.goods, x.e)
	}
	for _, g := range badOneGoods() {
		if n, ok, e := loft.Days([]api.Loft{hot()}, g); n != 0 || ok || e != api.ErrArg {
			t.Errorf("P6.9: Days of %v is %v, %v, %v", g, n, ok, e)
		}
	}
}

func TestErrorsOfOneLoftFirst(t *testing.T) {
	for _, l := range badLofts() {
		if len(l) != 1 {
			continue
		}
		for _, heats := range [][]int{{1}, {5}} {
			if n, e := loft.Warmth(l[0], heats); n != 0 || e != api.ErrArg {
				t.Errorf("P6.4: Warmth(%v, %v) is %v, %v", l[0], heats, n, e)
			}
		}
		for _, need := range []int{0, 1} {
			if heats, ok, e := loft.Program(l[0], need, api.MaxRipe); len(heats) != 0 || ok || e != api.ErrArg {
				t.Errorf("P6.4: Program(%v, %v) is %v, %v, %v", l[0], need, heats, ok, e)
			}
		}
	}
}
