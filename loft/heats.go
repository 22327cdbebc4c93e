package loft

import "linoleum/api"

// The first heat may be 0 or 1, as if the day before had the heat 0.
const coldLoft = 0

// ValidHeats: see P6.4.
func ValidHeats(heats []int) bool {
	if !isFrom(1, api.MaxStay, len(heats)) {
		return false
	}
	before := coldLoft
	for _, heat := range heats {
		if !isFrom(lowest(before), highest(before), heat) {
			return false
		}
		before = heat
	}
	return true
}

// Warmth: see P6.4.
func Warmth(f api.Loft, heats []int) (int, api.Errno) {
	if e := ValidateLofts([]api.Loft{f}); e != api.OK {
		return 0, e
	}
	if !ValidHeats(heats) {
		return 0, api.ErrArg
	}
	return warmth(f, heats), api.OK
}

// Program: see P6.5.
func Program(f api.Loft, need, most int) ([]int, bool, api.Errno) {
	if e := ValidateLofts([]api.Loft{f}); e != api.OK {
		return nil, false, e
	}
	if !isRipeness(need, most) {
		return nil, false, api.ErrArg
	}
	heats, ok := program(f, need, most)
	return heats, ok, api.OK
}

// lowest and highest return the bounds of the heat on the day after one with a heat.
func lowest(before int) int  { return max(0, before-1) }
func highest(before int) int { return min(api.MaxHeat, before+1) }

func warmth(f api.Loft, heats []int) int {
	sum := 0
	for _, heat := range heats {
		sum += f.Rates[heat]
	}
	return sum
}

// warmths is a set of sums of rates: n is in it if the bit n is 1. Sums above 63 are lost: no goods may be so ripe.
type warmths uint64

// warmthsFrom returns the set of the numbers from need to most.
func warmthsFrom(need, most int) warmths {
	return warmths(1)<<(most+1) - warmths(1)<<need
}

// reach has, by the number of days and then by the heat of the first one, the warmths that so many days can have.
type reach [api.MaxStay + 1][api.MaxHeat + 1]warmths

func reachOf(f api.Loft) *reach {
	r := &reach{}
	for heat, rate := range f.Rates {
		r[1][heat] = 1 << rate
	}
	for days := 2; days <= api.MaxStay; days++ {
		for heat, rate := range f.Rates {
			r[days][heat] = r.after(heat, days-1) << rate
		}
	}
	return r
}

// after returns the warmths that so many days can have if they follow one with a heat.
func (r *reach) after(before, days int) warmths {
	var all warmths
	for heat := lowest(before); heat <= highest(before); heat++ {
		all |= r[days][heat]
	}
	return all
}

func program(f api.Loft, need, most int) ([]int, bool) {
	r := reachOf(f)
	wanted := warmthsFrom(need, most)
	for days := 1; days <= api.MaxStay; days++ {
		if r.after(coldLoft, days)&wanted != 0 {
			return r.first(f, days, wanted), true
		}
	}
	return nil, false
}

// first returns, of the heats of so many days with one of the warmths wanted, the first ones in ascending order; there are some.
func (r *reach) first(f api.Loft, days int, wanted warmths) []int {
	var heats []int
	heat := coldLoft
	for ; days > 0; days-- {
		heat = lowest(heat)
		for r[days][heat]&wanted == 0 {
			heat++
		}
		heats = append(heats, heat)
		wanted >>= f.Rates[heat] // what is left for the days after this one
	}
	return heats
}
