package loft_test

import (
	"math"
	"math/rand"
	"slices"
	"testing"

	"linoleum/api"
	"linoleum/loft"
)

func TestDays(t *testing.T) {
	found, none := 0, 0
	for _, o := range orders(4, 600) {
		for _, g := range o.goods {
			want := 0
			for days := api.MaxStay; days > 0; days-- {
				for _, f := range o.lofts {
					heats, ok, _ := loft.Program(f, g.Need, g.Most)
					if ok && len(heats) == days && f.Poles >= g.Poles {
						want = days
					}
				}
			}
			if got, ok, e := loft.Days(o.lofts, g); got != want || ok != (want > 0) || e != api.OK {
				t.Errorf("P6.9: Days(%v, %v) is %v, %v, %v, not %v", o.lofts, g, got, ok, e, want)
			}
			if want > 0 {
				found++
			} else {
				none++
			}
		}
	}
	if found < 300 || none < 300 {
		t.Errorf("the cases do not cover the outcomes: %d found, %d not", found, none)
	}
	fast, slow := withRates(4, 0, 9, 9, 9, 9), withRates(5, 0, 1, 1, 1, 1)
	for _, x := range []struct {
		lofts []api.Loft
		poles int
		want  int
	}{
		{[]api.Loft{slow, fast}, 4, 1}, {[]api.Loft{fast, slow}, 4, 1}, {[]api.Loft{fast, slow}, 5, 7}, {[]api.Loft{slow, fast}, 5, 7}, {[]api.Loft{slow, fast}, 6, 0},
	} {
		if got, ok, e := loft.Days(x.lofts, api.Goods{Poles: x.poles, Need: 7, Most: 9}); got != x.want || ok != (x.want > 0) || e != api.OK {
			t.Errorf("P6.9: Days(%v) of %d poles is %v, %v, %v", x.lofts, x.poles, got, ok, e)
		}
	}
}

// daysOf returns Days of all goods; 0 where it is false.
func daysOf(o order) []int {
	var list []int
	for _, g := range o.goods {
		days, _, _ := loft.Days(o.lofts, g)
		list = append(list, days)
	}
	return list
}

// isProof is P6.9 word by word; days are those of the goods.
func isProof(o order, days []int, w loft.Window) bool {
	if w.From < 0 || w.From > w.To || w.To > api.MaxDue {
		return false
	}
	never := false
	work, room := 0, 0
	for n, g := range o.goods {
		if g.Ready >= w.From && g.Due <= w.To {
			never = never || days[n] == 0
			work += g.Poles * days[n]
		}
	}
	for _, f := range o.lofts {
		room += f.Poles * (w.To - w.From)
	}
	return never || work > room
}

func windows() []loft.Window {
	var list []loft.Window
	for from := -1; from <= api.MaxDue+1; from++ {
		for to := -1; to <= api.MaxDue+1; to++ {
			list = append(list, loft.Window{From: from, To: to})
		}
	}
	return append(list, loft.Window{From: math.MinInt, To: api.MaxDue}, loft.Window{From: 0, To: math.MaxInt}, loft.Window{From: math.MinInt, To: math.MaxInt}, loft.Window{From: math.MaxInt, To: math.MinInt})
}

// The windows are in ascending order, so that the first proof among them is that of Prove.
func TestProofs(t *testing.T) {
	yes, no := 0, 0
	for _, o := range orders(5, 150) {
		days := daysOf(o)
		var first loft.Window
		found := false
		for _, w := range windows() {
			want := isProof(o, days, w)
			if got := loft.IsProof(o.lofts, o.goods, w); got != want {
				t.Errorf("P6.9: IsProof(%v, %v, %v) is %v", o.lofts, o.goods, w, got)
			}
			if want && !found {
				first, found = w, true
			}
		}
		if w, ok, e := loft.Prove(o.lofts, o.goods); w != first || ok != found || e != api.OK {
			t.Errorf("P6.10: Prove(%v, %v) is %v, %v, %v, not %v, %v", o.lofts, o.goods, w, ok, e, first, found)
		}
		if found {
			yes++
		} else {
			no++
		}
	}
	if yes < 30 || no < 30 {
		t.Errorf("the cases do not cover the outcomes: %d proofs, %d without", yes, no)
	}
}

func TestProofExamples(t *testing.T) {
	late := []api.Goods{{Poles: 40, Need: 9, Most: 9, Ready: api.MaxDue, Due: api.MaxDue}}
	never := []api.Goods{{Poles: 1, Need: 1, Most: 8, Ready: 5, Due: 50}}
	full := []api.Goods{{Poles: 40, Need: 9, Most: 9, Ready: 2, Due: 4}, {Poles: 40, Need: 9, Most: 9, Ready: 3, Due: 4}}
	over := append([]api.Goods{{Poles: 1, Need: 9, Most: 9, Ready: 3, Due: 4}}, full...)
	early := []api.Goods{{Poles: 40, Need: 18, Most: 18, Ready: 0, Due: 1}, {Poles: 40, Need: 18, Most: 18, Ready: 1, Due: 2}}
	for _, x := range []struct {
		lofts []api.Loft
		goods []api.Goods
		w     loft.Window
		ok    bool
	}{
		{[]api.Loft{exampleLoft(10)}, exampleGoods(), loft.Window{From: 0, To: 3}, true},
		{[]api.Loft{exampleLoft(12)}, exampleGoods(), loft.Window{}, false},
		{[]api.Loft{exampleLoft(6), exampleLoft(6)}, exampleGoods(), loft.Window{}, false},
		{[]api.Loft{exampleLoft(6), exampleLoft(5)}, exampleGoods(), loft.Window{From: 0, To: 3}, true},
		{[]api.Loft{exampleLoft(5), exampleLoft(5)}, exampleGoods(), loft.Window{From: 0, To: 3}, true},
		{[]api.Loft{hot()}, late, loft.Window{From: 60, To: 60}, true},
		{[]api.Loft{hot()}, never, loft.Window{From: 0, To: 50}, true},
		{[]api.Loft{hot()}, full, loft.Window{}, false},
		{[]api.Loft{hot()}, over, loft.Window{From: 2, To: 4}, true},
		{[]api.Loft{hot()}, early, loft.Window{From: 0, To: 1}, true},
		{[]api.Loft{hot()}, nil, loft.Window{}, false},
	} {
		if w, ok, e := loft.Prove(x.lofts, x.goods); w != x.w || ok != x.ok || e != api.OK {
			t.Errorf("P6.10: Prove(%v, %v) is %v, %v, %v, not %v, %v", x.lofts, x.goods, w, ok, e, x.w, x.ok)
		}
		if x.ok && !loft.IsProof(x.lofts, x.goods, x.w) {
			t.Errorf("P6.9: IsProof(%v, %v, %v) is false", x.lofts, x.goods, x.w)
		}
	}
}

// loadsFor returns loads that keep the conditions of one load: all of up to four days, but of those that differ in their heats alone just one.
func loadsFor(o order, all [][]int) []api.Load {
	var list []api.Load
	has := map[[4]int]bool{}
	for _, heats := range all {
		for in := range o.lofts {
			for from := range 8 {
				for goods := 1; goods < 1<<len(o.goods); goods++ {
					l := api.Load{Loft: in, From: from, Heats: heats, Goods: bits(goods)}
					key := [4]int{in, from, len(heats), goods}
					if !has[key] && checkLoad(o, l) == api.OK {
						has[key] = true
						list = append(list, l)
					}
				}
			}
		}
	}
	return list
}

// bits returns the set of the bits of a number that are 1.
func bits(n int) []int {
	var list []int
	for i := range 8 {
		if n>>i&1 == 1 {
			list = append(list, i)
		}
	}
	return list
}

// hasPlan reports whether Check accepts a plan of these loads that goes on a plan of the goods before n.
func hasPlan(o order, plan, loads []api.Load, n int) bool {
	e := loft.Check(o.lofts, o.goods, plan)
	if e != api.ErrFit || n == len(o.goods) {
		return e == api.OK
	}
	if slices.ContainsFunc(plan, func(l api.Load) bool { return slices.Contains(l.Goods, n) }) {
		return hasPlan(o, plan, loads, n+1)
	}
	return slices.ContainsFunc(loads, func(l api.Load) bool {
		return slices.Contains(l.Goods, n) && hasPlan(o, append(plan[:len(plan):len(plan)], l), loads, n+1)
	})
}

// S3: where there is a proof there is no plan, however one looks for it.
func TestProofsAreNeverWrong(t *testing.T) {
	random := rand.New(rand.NewSource(6))
	proofs, plans := 0, 0
	all := allHeats()
	// Heats of more than four days would be too late for all these goods.
	all = all[:slices.IndexFunc(all, func(heats []int) bool { return len(heats) > 4 })]
	for range 1000 {
		o := order{lofts: randomLofts(random, 1+random.Intn(2), 5)}
		for range 1 + random.Intn(3) {
			g := api.Goods{Poles: 1 + random.Intn(3), Need: 1 + random.Intn(12), Ready: random.Intn(3)}
			g.Most, g.Due = g.Need+random.Intn(6), g.Ready+1+random.Intn(4)
			o.goods = append(o.goods, g)
		}
		_, proved, _ := loft.Prove(o.lofts, o.goods)
		can := hasPlan(o, nil, loadsFor(o, all), 0)
		if proved && can {
			t.Errorf("P6.9, S3: Prove(%v, %v) has a proof, but there is a plan", o.lofts, o.goods)
		}
		if proved {
			proofs++
		}
		if can {
			plans++
		}
	}
	if proofs < 100 || plans < 100 {
		t.Errorf("the cases do not cover the outcomes: %d proofs, %d plans", proofs, plans)
	}
}
