package loft

import (
	"slices"

	"linoleum/api"
)

// demand is the lofts and the goods of a plan; they are valid.
type demand struct {
	lofts []api.Loft
	goods []api.Goods
}

// load is a load with what is known of it.
type load struct {
	api.Load
	room   int // the poles of its loft
	warmth int
	all    api.Goods // what its goods need together
}

// Check: see P6.7.
func Check(lofts []api.Loft, goods []api.Goods, plan []api.Load) api.Errno {
	if e := validateBoth(lofts, goods); e != api.OK {
		return e
	}
	d := demand{lofts: lofts, goods: goods}
	var loads []load
	for _, given := range plan {
		if e := d.validate(given); e != api.OK {
			return e
		}
		l := d.know(given)
		if e := l.check(); e != api.OK {
			return e
		}
		if e := l.checkAfter(loads); e != api.OK {
			return e
		}
		loads = append(loads, l)
	}
	return d.checkAll(loads)
}

// validate returns the errors of P6.7 up to ErrArg.
func (d demand) validate(l api.Load) api.Errno {
	if !isFrom(0, len(d.lofts)-1, l.Loft) {
		return api.ErrNone
	}
	if !isFrom(0, api.MaxDue, l.From) || !ValidHeats(l.Heats) || len(l.Goods) == 0 || !isSetBelow(l.Goods, len(d.goods)) {
		return api.ErrArg
	}
	return api.OK
}

// know returns what is known of a load for which validate returns OK.
func (d demand) know(l api.Load) load {
	f := d.lofts[l.Loft]
	return load{Load: l, room: f.Poles, warmth: warmth(f, l.Heats), all: d.together(l.Goods)}
}

// together returns what the goods of a list, which is not empty, need in one load.
func (d demand) together(list []int) api.Goods {
	all := d.goods[list[0]]
	for _, n := range list[1:] {
		g := d.goods[n]
		all.Poles += g.Poles
		all.Need, all.Most = max(all.Need, g.Need), min(all.Most, g.Most)
		all.Ready, all.Due = max(all.Ready, g.Ready), min(all.Due, g.Due)
	}
	return all
}

// checkAll returns the error of the plan as a whole.
func (d demand) checkAll(loads []load) api.Errno {
	for n := range d.goods {
		if !slices.ContainsFunc(loads, func(l load) bool { return slices.Contains(l.Goods, n) }) {
			return api.ErrFit
		}
	}
	return api.OK
}

// check returns the errors of P6.7 from ErrShort to ErrLate.
func (l load) check() api.Errno {
	switch {
	case l.all.Poles > l.room:
		return api.ErrShort
	case l.From < l.all.Ready:
		return api.ErrOrder
	case !isFrom(l.all.Need, l.all.Most, l.warmth):
		return api.ErrRule
	case l.end() > l.all.Due:
		return api.ErrLate
	}
	return api.OK
}

// checkAfter returns the errors of P6.7 that are due to earlier loads.
func (l load) checkAfter(earlier []load) api.Errno {
	if slices.ContainsFunc(earlier, l.shares) {
		return api.ErrState
	}
	if slices.ContainsFunc(earlier, l.meets) {
		return api.ErrOverlap
	}
	return api.OK
}

// end returns the day on which the load is finished, the first one on which its poles are free again.
func (l load) end() int {
	return l.From + len(l.Heats)
}

// shares reports whether some goods are in both loads.
func (l load) shares(other load) bool {
	return slices.ContainsFunc(l.Goods, func(n int) bool { return slices.Contains(other.Goods, n) })
}

// meets reports whether the loads are in the same loft on a common day.
func (l load) meets(other load) bool {
	return l.Loft == other.Loft && l.From < other.end() && other.From < l.end()
}
