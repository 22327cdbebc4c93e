package lot

import (
	"slices"

	"linoleum/api"
)

// Paths: see P3.4.
func Paths(l []api.Lot, of, in int) (int, api.Errno) {
	if e := validateNumbers(l, of, in); e != api.OK {
		return 0, e
	}
	return paths(l, of)[in], api.OK
}

// Sources: see P3.5.
func Sources(l []api.Lot, in int) ([]int, api.Errno) {
	if e := validateNumbers(l, in); e != api.OK {
		return nil, e
	}
	var list []int
	for lot, x := range l {
		if isReceived(x) && paths(l, lot)[in] > 0 {
			list = append(list, lot)
		}
	}
	return list, api.OK
}

// Descend: see P3.5.
func Descend(l []api.Lot, of int) ([]int, api.Errno) {
	if e := validateNumbers(l, of); e != api.OK {
		return nil, e
	}
	var list []int
	for lot, count := range paths(l, of) {
		if lot != of && count > 0 {
			list = append(list, lot)
		}
	}
	return list, api.OK
}

// Depth: see P3.6.
func Depth(l []api.Lot, lot int) (int, api.Errno) {
	if e := validateNumbers(l, lot); e != api.OK {
		return 0, e
	}
	depths := make([]int, lot+1)
	for i := range depths {
		for _, part := range l[i].Parts {
			depths[i] = max(depths[i], 1+depths[part.Lot])
		}
	}
	return depths[lot], api.OK
}

// Only: see P3.7.
func Only(l []api.Lot, keep []int) ([]api.Lot, []int, api.Errno) {
	if e := Validate(l); e != api.OK {
		return nil, nil, e
	}
	if !isSetOfLots(l, keep) {
		return nil, nil, api.ErrArg
	}
	var kept []api.Lot
	var old []int
	numbers := make([]int, len(l))
	for lot, x := range l {
		if leadsToAny(l, lot, keep) {
			numbers[lot] = len(old)
			old = append(old, lot)
			kept = append(kept, renumbered(x, numbers))
		}
	}
	return kept, old, api.OK
}

// paths returns how many paths there are from a lot to each lot. A lot has a share above 0 in just those lots to which there is a path, because no part is empty.
func paths(l []api.Lot, of int) []int {
	counts := make([]int, len(l))
	counts[of] = 1
	for lot := of + 1; lot < len(l); lot++ {
		for _, part := range l[lot].Parts {
			counts[lot] += counts[part.Lot]
		}
	}
	return counts
}

func isSetOfLots(l []api.Lot, list []int) bool {
	for i, lot := range list {
		if lot < 0 || lot >= len(l) || i > 0 && lot <= list[i-1] {
			return false
		}
	}
	return true
}

func leadsToAny(l []api.Lot, of int, lots []int) bool {
	counts := paths(l, of)
	return slices.ContainsFunc(lots, func(lot int) bool { return counts[lot] > 0 })
}

// renumbered returns a lot with new parts, whose lots have the new numbers.
func renumbered(x api.Lot, numbers []int) api.Lot {
	x.Parts = slices.Clone(x.Parts)
	for i := range x.Parts {
		x.Parts[i].Lot = numbers[x.Parts[i].Lot]
	}
	return x
}
