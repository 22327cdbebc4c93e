package loft_test

import (
	"slices"
	"testing"

	"linoleum/api"
	"linoleum/loft"
)

// dueFirst returns the numbers of the goods in the order in which they are planned.
func dueFirst(goods []api.Goods) []int {
	var list []int
	for due := range api.MaxDue + 1 {
		for n, g := range goods {
			if g.Due == due {
				list = append(list, n)
			}
		}
	}
	return list
}

// calendar has the days of the lofts that are taken.
type calendar map[[2]int]bool

func (c calendar) isFree(in, from, days int) bool {
	for i := range days {
		if c[[2]int{in, from + i}] {
			return false
		}
	}
	return true
}

// planFor is P6.8 word by word, with a calendar of the lofts.
func planFor(o order) ([]api.Load, []int) {
	var plan []api.Load
	var left []int
	taken := calendar{}
	for _, n := range dueFirst(o.goods) {
		if hang(o, plan, n) {
			continue
		}
		l, ok := firstFinished(o, taken, n)
		if !ok {
			left = append(left, n)
			continue
		}
		for i := range l.Heats {
			taken[[2]int{l.Loft, l.From + i}] = true
		}
		plan = append(plan, l)
	}
	slices.Sort(left)
	return plan, left
}

func hang(o order, plan []api.Load, n int) bool {
	for i, l := range plan {
		l.Goods = append(slices.Clone(l.Goods), n)
		slices.Sort(l.Goods)
		if checkLoad(o, l) == api.OK {
			plan[i] = l
			return true
		}
	}
	return false
}

func firstFinished(o order, taken calendar, n int) (api.Load, bool) {
	var best api.Load
	found := false
	g := o.goods[n]
	for in, f := range o.lofts {
		heats, ok, _ := loft.Program(f, g.Need, g.Most)
		if !ok || f.Poles < g.Poles {
			continue
		}
		from := g.Ready
		for !taken.isFree(in, from, len(heats)) {
			from++
		}
		if end := from + len(heats); end <= g.Due && (!found || end < best.From+len(best.Heats)) {
			best, found = api.Load{Loft: in, From: from, Heats: heats, Goods: []int{n}}, true
		}
	}
	return best, found
}

func TestPlan(t *testing.T) {
	whole, partial, together := 0, 0, 0
	for _, o := range orders(2, 4000) {
		want, wantLeft := planFor(o)
		given := slices.Clone(o.goods)
		plan, left, e := loft.Plan(o.lofts, o.goods)
		if !same(plan, want) || !slices.Equal(left, wantLeft) || e != api.OK {
			t.Errorf("P6.8: Plan(%v, %v) is %v, %v, %v, not %v, %v", o.lofts, o.goods, plan, left, e, want, wantLeft)
		}
		if !slices.Equal(o.goods, given) {
			t.Errorf("R5: Plan changed the goods %v to %v", given, o.goods)
		}
		wantError := api.OK
		if len(left) > 0 {
			wantError = api.ErrFit
		}
		if got := loft.Check(o.lofts, o.goods, plan); got != wantError {
			t.Errorf("P6.8: Check of Plan(%v, %v), with %v left over, is %v", o.lofts, o.goods, left, got)
		}
		switch {
		case len(left) > 0:
			partial++
		case len(plan) > 1:
			whole++
		}
		if len(plan)+len(left) < len(o.goods) {
			together++
		}
	}
	if whole < 300 || partial < 300 || together < 300 {
		t.Errorf("the cases do not cover the outcomes: %d whole plans, %d others, %d of goods together", whole, partial, together)
	}
}

func TestPlanSharesNoMemory(t *testing.T) {
	for _, o := range orders(3, 200) {
		plan, left, _ := loft.Plan(o.lofts, o.goods)
		again, leftAgain, _ := loft.Plan(o.lofts, o.goods)
		for i, l := range plan {
			want := copyOf(again)
			want[i].Heats, want[i].Goods = append(want[i].Heats, 7), append(want[i].Goods, 7)
			l.Heats, l.Goods = append(l.Heats, 7), append(l.Goods, 7)
			changed := slices.Clone(plan)
			changed[i] = l
			if !same(changed, want) {
				t.Errorf("R5: a change of one load of %v changes others: %v", again, changed)
			}
		}
		if !same(plan, again) || !slices.Equal(left, leftAgain) {
			t.Errorf("R11: Plan(%v, %v) is %v, %v, and then %v, %v", o.lofts, o.goods, plan, left, again, leftAgain)
		}
	}
}

func TestPlanExamples(t *testing.T) {
	fast, slow := withRates(6, 0, 9, 9, 9, 9), withRates(6, 0, 1, 1, 1, 1)
	goods := func(poles, need, most, ready, due int) api.Goods {
		return api.Goods{Poles: poles, Need: need, Most: most, Ready: ready, Due: due}
	}
	load := func(in, from int, heats []int, goods ...int) api.Load {
		return api.Load{Loft: in, From: from, Heats: heats, Goods: goods}
	}
	one := []int{1}
	for _, x := range []struct {
		name  string
		lofts []api.Loft
		goods []api.Goods
		plan  []api.Load
		left  []int
	}{
		{"no goods", []api.Loft{fast}, nil, nil, nil},
		{"the chapter's goods", []api.Loft{exampleLoft(10)}, exampleGoods(), []api.Load{load(0, 0, []int{1, 2, 3}, 0)}, []int{1}},
		{"first due, first planned", []api.Loft{fast}, []api.Goods{goods(6, 9, 9, 0, 9), goods(6, 9, 9, 0, 8)}, []api.Load{load(0, 0, one, 1), load(0, 1, one, 0)}, nil},
		{"equally due", []api.Loft{fast}, []api.Goods{goods(6, 9, 9, 0, 8), goods(6, 9, 9, 0, 8)}, []api.Load{load(0, 0, one, 0), load(0, 1, one, 1)}, nil},
		{"finished first, later loft", []api.Loft{slow, fast}, []api.Goods{goods(1, 2, 9, 0, 9)}, []api.Load{load(1, 0, one, 0)}, nil},
		{"finished at once, first loft", []api.Loft{fast, fast}, []api.Goods{goods(1, 2, 9, 0, 9)}, []api.Load{load(0, 0, one, 0)}, nil},
		{"finished first though begun later", []api.Loft{fast, slow}, []api.Goods{goods(6, 9, 9, 0, 1), goods(6, 3, 9, 0, 9)}, []api.Load{load(0, 0, one, 0), load(0, 1, one, 1)}, nil},
		{"too few poles", []api.Loft{withRates(5, 9, 9, 9, 9, 9), slow}, []api.Goods{goods(6, 2, 9, 0, 9)}, []api.Load{load(1, 0, []int{1, 1}, 0)}, nil},
		{"just in time", []api.Loft{slow}, []api.Goods{goods(6, 2, 9, 3, 5)}, []api.Load{load(0, 3, []int{1, 1}, 0)}, nil},
		{"a day late", []api.Loft{slow}, []api.Goods{goods(6, 2, 9, 4, 5)}, nil, []int{0}},
		{"no program", []api.Loft{fast}, []api.Goods{goods(1, 1, 8, 0, 60)}, nil, []int{0}},
		{"into the first load with room", []api.Loft{fast}, []api.Goods{goods(4, 9, 9, 0, 1), goods(3, 9, 9, 0, 2), goods(2, 9, 9, 0, 3), goods(2, 9, 9, 0, 4)}, []api.Load{load(0, 0, one, 0, 2), load(0, 1, one, 1, 3)}, nil},
		{"into a load with a lower number", []api.Loft{fast}, []api.Goods{goods(1, 9, 9, 0, 4), goods(1, 9, 9, 0, 3), goods(1, 9, 9, 0, 5)}, []api.Load{load(0, 0, one, 0, 1, 2)}, nil},
		{"not into a load before Ready", []api.Loft{fast}, []api.Goods{goods(1, 9, 9, 0, 4), goods(1, 9, 9, 1, 4)}, []api.Load{load(0, 0, one, 0), load(0, 1, one, 1)}, nil},
		{"not into a load that is too ripe", []api.Loft{withRates(9, 1, 3, 3, 3, 3)}, []api.Goods{goods(1, 3, 3, 0, 4), goods(1, 1, 2, 0, 4)}, []api.Load{load(0, 0, one, 0), load(0, 1, []int{0}, 1)}, nil},
		{"a gap between loads", []api.Loft{fast}, []api.Goods{goods(6, 9, 9, 2, 3), goods(6, 9, 9, 0, 4), goods(6, 18, 18, 0, 5), goods(6, 9, 9, 0, 6)}, []api.Load{load(0, 2, one, 0), load(0, 0, one, 1), load(0, 3, []int{1, 1}, 2), load(0, 1, one, 3)}, nil},
		{"left over as a set", []api.Loft{fast}, []api.Goods{goods(7, 9, 9, 0, 4), goods(6, 9, 9, 0, 3), goods(7, 9, 9, 0, 2)}, []api.Load{load(0, 0, one, 1)}, []int{0, 2}},
	} {
		plan, left, e := loft.Plan(x.lofts, x.goods)
		if !same(plan, x.plan) || !slices.Equal(left, x.left) || e != api.OK {
			t.Errorf("P6.8: %s: Plan is %v, %v, %v, not %v, %v", x.name, plan, left, e, x.plan, x.left)
		}
	}
}
