package loft

import (
	"cmp"
	"slices"

	"linoleum/api"
)

// Plan: see P6.8.
func Plan(lofts []api.Loft, goods []api.Goods) ([]api.Load, []int, api.Errno) {
	if e := validateBoth(lofts, goods); e != api.OK {
		return nil, nil, e
	}
	d := demand{lofts: lofts, goods: goods}
	var loads []load
	var left []int
	for _, n := range d.order() {
		if d.put(loads, n) {
			continue
		}
		if l, ok := d.begin(loads, n); ok {
			loads = append(loads, l)
		} else {
			left = append(left, n)
		}
	}
	slices.Sort(left)
	var plan []api.Load
	for _, l := range loads {
		plan = append(plan, l.Load)
	}
	return plan, left, api.OK
}

// order returns the numbers of the goods in the order in which they are planned.
func (d demand) order() []int {
	var list []int
	for n := range d.goods {
		list = append(list, n)
	}
	slices.SortStableFunc(list, func(a, b int) int { return cmp.Compare(d.goods[a].Due, d.goods[b].Due) })
	return list
}

// put puts goods into the first load in which they fit, and reports whether there is one.
func (d demand) put(loads []load, n int) bool {
	for i, l := range loads {
		l.Goods = with(l.Goods, n)
		if fuller := d.know(l.Load); fuller.check() == api.OK {
			loads[i] = fuller
			return true
		}
	}
	return false
}

// with returns a new set that has n as well.
func with(set []int, n int) []int {
	out := append([]int{n}, set...)
	slices.Sort(out)
	return out
}

// begin returns the new load for goods that fit into none of the loads; false if there is none.
func (d demand) begin(loads []load, n int) (load, bool) {
	var best load
	found := false
	for loft := range d.lofts {
		l, ok := d.beginIn(loft, loads, n)
		if ok && (!found || l.end() < best.end()) {
			best, found = l, true
		}
	}
	return best, found
}

// beginIn returns the new load in one of the lofts.
func (d demand) beginIn(loft int, loads []load, n int) (load, bool) {
	g := d.goods[n]
	heats, ok := program(d.lofts[loft], g.Need, g.Most)
	if !ok {
		return load{}, false
	}
	l := d.know(api.Load{Loft: loft, From: g.Ready, Heats: heats, Goods: []int{n}})
	for slices.ContainsFunc(loads, l.meets) {
		l.From++
	}
	return l, l.check() == api.OK
}
