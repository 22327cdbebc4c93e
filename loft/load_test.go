package loft_test

import (
	"math"
	"math/rand"
	"slices"
	"testing"

	"linoleum/api"
	"linoleum/loft"
)

// copyOf returns a plan that shares no memory with the given one.
func copyOf(plan []api.Load) []api.Load {
	out := slices.Clone(plan)
	for i := range out {
		out[i].Heats, out[i].Goods = slices.Clone(out[i].Heats), slices.Clone(out[i].Goods)
	}
	return out
}

// same compares plans; a nil slice and an empty one are the same (R4).
func same(a, b []api.Load) bool {
	return slices.EqualFunc(a, b, func(x, y api.Load) bool {
		return x.Loft == y.Loft && x.From == y.From && slices.Equal(x.Heats, y.Heats) && slices.Equal(x.Goods, y.Goods)
	})
}

// checkLoad returns the errors of a load by itself, each condition of P6.7 asked of one of its goods after the other.
func checkLoad(o order, l api.Load) api.Errno {
	if l.Loft < 0 || l.Loft >= len(o.lofts) {
		return api.ErrNone
	}
	if l.From < 0 || l.From > api.MaxDue || !areHeats(l.Heats) || len(l.Goods) == 0 {
		return api.ErrArg
	}
	for i, n := range l.Goods {
		if n < 0 || n >= len(o.goods) || i > 0 && n <= l.Goods[i-1] {
			return api.ErrArg
		}
	}
	poles, warmth := 0, 0
	for _, n := range l.Goods {
		poles += o.goods[n].Poles
	}
	for _, heat := range l.Heats {
		warmth += o.lofts[l.Loft].Rates[heat]
	}
	is := func(wrong func(g api.Goods) bool) bool {
		return slices.ContainsFunc(l.Goods, func(n int) bool { return wrong(o.goods[n]) })
	}
	switch {
	case poles > o.lofts[l.Loft].Poles:
		return api.ErrShort
	case is(func(g api.Goods) bool { return l.From < g.Ready }):
		return api.ErrOrder
	case is(func(g api.Goods) bool { return warmth < g.Need || warmth > g.Most }):
		return api.ErrRule
	case is(func(g api.Goods) bool { return l.From+len(l.Heats) > g.Due }):
		return api.ErrLate
	}
	return api.OK
}

// checkPlan is P6.7 with tables of the goods that hang and of the days of the lofts.
func checkPlan(o order, plan []api.Load) api.Errno {
	hung := map[int]bool{}
	taken := map[[2]int]bool{}
	for _, l := range plan {
		if e := checkLoad(o, l); e != api.OK {
			return e
		}
		for _, n := range l.Goods {
			if hung[n] {
				return api.ErrState
			}
		}
		for i := range l.Heats {
			if taken[[2]int{l.Loft, l.From + i}] {
				return api.ErrOverlap
			}
		}
		for _, n := range l.Goods {
			hung[n] = true
		}
		for i := range l.Heats {
			taken[[2]int{l.Loft, l.From + i}] = true
		}
	}
	if len(hung) < len(o.goods) {
		return api.ErrFit
	}
	return api.OK
}

// changed returns a plan with a random change, which often keeps its conditions or breaks just one.
func changed(random *rand.Rand, o order, plan []api.Load) []api.Load {
	plan = copyOf(plan)
	if len(plan) == 0 {
		return []api.Load{{Loft: random.Intn(len(o.lofts)), Heats: []int{random.Intn(2)}, Goods: []int{random.Intn(2)}}}
	}
	l := &plan[random.Intn(len(plan))]
	switch random.Intn(9) {
	case 0:
		l.Loft = random.Intn(api.MaxLofts+1) - random.Intn(2)
	case 1:
		l.From += random.Intn(7) - 3
	case 2:
		if len(l.Heats) > 0 {
			l.Heats[random.Intn(len(l.Heats))] += random.Intn(3) - 1
		}
	case 3:
		l.Heats = append(l.Heats, random.Intn(api.MaxHeat+1))
	case 4:
		l.Heats = l.Heats[min(1, len(l.Heats)):]
	case 5:
		l.Goods = append(l.Goods, random.Intn(api.MaxGoods))
		slices.Sort(l.Goods)
	case 6:
		l.Goods = l.Goods[min(1, len(l.Goods)):]
	case 7:
		plan = append(plan, *l)
		plan[len(plan)-1].From += random.Intn(8)
	case 8:
		at := random.Intn(len(plan))
		plan = slices.Delete(plan, at, at+1)
	}
	return copyOf(plan)
}

func TestCheck(t *testing.T) {
	random := rand.New(rand.NewSource(1))
	count := map[api.Errno]int{}
	for _, o := range orders(1, 1500) {
		start, _, e := loft.Plan(o.lofts, o.goods)
		if e != api.OK {
			t.Fatal(e)
		}
		for range 20 {
			plan := copyOf(start)
			for range random.Intn(4) {
				plan = changed(random, o, plan)
			}
			random.Shuffle(len(plan), func(i, j int) { plan[i], plan[j] = plan[j], plan[i] })
			given, want := copyOf(plan), checkPlan(o, plan)
			if got := loft.Check(o.lofts, o.goods, plan); got != want {
				t.Errorf("P6.7: Check(%v, %v, %v) is %v, not %v", o.lofts, o.goods, plan, got, want)
			}
			if !same(plan, given) {
				t.Errorf("R5: Check changed %v to %v", given, plan)
			}
			count[want]++
		}
	}
	for _, e := range []api.Errno{api.OK, api.ErrNone, api.ErrArg, api.ErrShort, api.ErrOrder, api.ErrRule, api.ErrLate, api.ErrState, api.ErrOverlap, api.ErrFit} {
		if count[e] < 50 {
			t.Errorf("the cases do not cover the error %v: %v", e, count)
		}
	}
}

// Each load has the error that it is named after and all that come later, as far as they can be together.
func TestCheckOrder(t *testing.T) {
	o := order{lofts: []api.Loft{exampleLoft(10), exampleLoft(20)}, goods: []api.Goods{
		{Poles: 6, Need: 7, Most: 10, Ready: 0, Due: 3}, {Poles: 6, Need: 7, Most: 10, Ready: 0, Due: 3},
		{Poles: 4, Need: 3, Most: 8, Ready: 1, Due: 2}, {Poles: 1, Need: 1, Most: 2, Ready: 0, Due: 9},
	}}
	first := api.Load{Loft: 0, Heats: []int{1, 2, 3}, Goods: []int{0}}
	for _, x := range []struct {
		l    api.Load
		want api.Errno
	}{
		{api.Load{Loft: 2, From: -1, Heats: nil, Goods: nil}, api.ErrNone},
		{api.Load{Loft: -1}, api.ErrNone},
		{api.Load{Loft: math.MaxInt}, api.ErrNone},
		{api.Load{Loft: math.MinInt}, api.ErrNone},
		{api.Load{Loft: 0, From: -1, Heats: []int{1}, Goods: []int{0, 1, 2}}, api.ErrArg},
		{api.Load{Loft: 0, From: 61, Heats: []int{1}, Goods: []int{0, 1, 2}}, api.ErrArg},
		{api.Load{Loft: 0, From: math.MaxInt, Heats: []int{1}, Goods: []int{0, 1, 2}}, api.ErrArg},
		{api.Load{Loft: 0, From: math.MinInt, Heats: []int{1}, Goods: []int{0, 1, 2}}, api.ErrArg},
		{api.Load{Loft: 0, From: 0, Heats: nil, Goods: []int{0, 1, 2}}, api.ErrArg},
		{api.Load{Loft: 0, From: 0, Heats: []int{2}, Goods: []int{0, 1, 2}}, api.ErrArg},
		{api.Load{Loft: 0, From: 0, Heats: []int{1}, Goods: nil}, api.ErrArg},
		{api.Load{Loft: 0, From: 0, Heats: []int{1}, Goods: []int{0, 1, 4}}, api.ErrArg},
		{api.Load{Loft: 0, From: 0, Heats: []int{1}, Goods: []int{-1, 0, 1}}, api.ErrArg},
		{api.Load{Loft: 0, From: 0, Heats: []int{1}, Goods: []int{0, 2, 1}}, api.ErrArg},
		{api.Load{Loft: 0, From: 0, Heats: []int{1}, Goods: []int{0, 0}}, api.ErrArg},
		{api.Load{Loft: 0, From: 0, Heats: []int{1}, Goods: []int{0, math.MaxInt}}, api.ErrArg},
		{api.Load{Loft: 0, From: 0, Heats: []int{1}, Goods: []int{math.MinInt, 0}}, api.ErrArg},
		{api.Load{Loft: 0, From: 0, Heats: []int{1, 1, 1, 1}, Goods: []int{0, 1, 2}}, api.ErrShort},
		{api.Load{Loft: 0, From: 0, Heats: []int{1, 1, 1, 1}, Goods: []int{0, 2}}, api.ErrOrder},
		{api.Load{Loft: 0, From: 1, Heats: []int{1, 1, 1, 1}, Goods: []int{0, 2}}, api.ErrRule},
		{api.Load{Loft: 0, From: 1, Heats: []int{1, 2, 3, 3}, Goods: []int{0, 2}}, api.ErrRule},
		{api.Load{Loft: 0, From: 1, Heats: []int{1, 2, 3}, Goods: []int{0, 2}}, api.ErrLate},
		{api.Load{Loft: 0, From: 0, Heats: []int{1, 2, 3}, Goods: []int{0}}, api.ErrState},
		{api.Load{Loft: 0, From: 0, Heats: []int{1, 2, 3}, Goods: []int{1}}, api.ErrOverlap},
		{api.Load{Loft: 0, From: 2, Heats: []int{1}, Goods: []int{3}}, api.ErrOverlap},
		{api.Load{Loft: 0, From: 3, Heats: []int{1}, Goods: []int{3}}, api.ErrFit},
		{api.Load{Loft: 1, From: 2, Heats: []int{1}, Goods: []int{3}}, api.ErrFit},
	} {
		if got := loft.Check(o.lofts, o.goods, []api.Load{first, x.l}); got != x.want {
			t.Errorf("P6.7: Check of %v and %v is %v, not %v", first, x.l, got, x.want)
		}
		// One by one: the errors of the first load come before those of the second one.
		if x.want != api.ErrState && x.want != api.ErrOverlap && x.want != api.ErrFit {
			if got := loft.Check(o.lofts, o.goods, []api.Load{x.l, {Loft: 9}}); got != x.want {
				t.Errorf("P6.7: Check of %v and a load in no loft is %v, not %v", x.l, got, x.want)
			}
		}
	}
}

func TestCheckWholePlans(t *testing.T) {
	lofts, goods := []api.Loft{exampleLoft(6)}, exampleGoods()
	goods[1].Ready, goods[1].Due = 3, 6
	a := api.Load{Heats: []int{1, 2, 3}, Goods: []int{0}}
	b := api.Load{From: 3, Heats: []int{1, 2, 3}, Goods: []int{1}}
	for _, x := range []struct {
		plan []api.Load
		want api.Errno
	}{
		{[]api.Load{a, b}, api.OK}, {[]api.Load{b, a}, api.OK}, {[]api.Load{a}, api.ErrFit}, {[]api.Load{b}, api.ErrFit}, {nil, api.ErrFit},
		{[]api.Load{a, b, a}, api.ErrState}, {slices.Repeat([]api.Load{a}, 1000), api.ErrState},
	} {
		if got := loft.Check(lofts, goods, x.plan); got != x.want {
			t.Errorf("P6.7: Check(%v) is %v, not %v", x.plan, got, x.want)
		}
	}
	if got := loft.Check(lofts, nil, nil); got != api.OK {
		t.Error("P6.7: Check of no goods in no loads is", got)
	}
	// The last day of all, on which a load may begin but not be finished before Due.
	last := []api.Goods{{Poles: 1, Need: 1, Most: 1, Ready: api.MaxDue, Due: api.MaxDue}}
	if got := loft.Check(lofts, last, []api.Load{{From: api.MaxDue, Heats: []int{1}, Goods: []int{0}}}); got != api.ErrLate {
		t.Error("P6.7: Check of a load from the last day on is", got)
	}
}
