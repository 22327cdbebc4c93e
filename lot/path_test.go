package lot_test

import (
	"math"
	"math/big"
	"slices"
	"testing"

	"linoleum/api"
	"linoleum/lot"
)

// walk goes back over all paths from a lot to another one, and calls end for each with the product of its fractions.
func walk(l []api.Lot, of, in int, product *big.Rat, end func(product *big.Rat)) {
	if of == in {
		end(product)
		return
	}
	takes := int64(0)
	for _, p := range l[in].Parts {
		takes += int64(p.Mass)
	}
	for _, p := range l[in].Parts {
		walk(l, of, p.Lot, new(big.Rat).Mul(product, big.NewRat(int64(p.Mass), takes)), end)
	}
}

// few returns the cases with so few lots that all their paths can be walked.
func few() [][]api.Lot {
	return slices.DeleteFunc(cases(), func(l []api.Lot) bool { return len(l) > 12 })
}

func TestPaths(t *testing.T) {
	for _, l := range few() {
		for of := range l {
			for in := range l {
				want, sum := 0, new(big.Rat)
				walk(l, of, in, big.NewRat(1, 1), func(product *big.Rat) {
					want++
					sum.Add(sum, product)
				})
				if got, e := lot.Paths(l, of, in); got != want || e != api.OK {
					t.Errorf("P3.4: Paths(%v, %d, %d) is %d, %v, not %d", l, of, in, got, e, want)
				}
				// S6: shares by dilution and by paths agree.
				share, we := answer(sum)
				if got, e := lot.Share(l, of, in); got != share || e != we {
					t.Errorf("P3.4, S6: Share(%v, %d, %d) is %v, %v, not %v, %v", l, of, in, got, e, share, we)
				}
			}
		}
	}
	// Each number of paths of the ladder is the sum of the six before it.
	counts := []int{1}
	for in := range api.MaxLots {
		if in > 0 {
			sum := 0
			for _, n := range counts[max(0, in-api.MaxParts):] {
				sum += n
			}
			counts = append(counts, sum)
		}
		if got, e := lot.Paths(ladder(), 0, in); got != counts[in] || e != api.OK {
			t.Errorf("P3.4: Paths of the ladder to %d is %d, %v, not %d", in, got, e, counts[in])
		}
	}
}

func TestSourcesAndDescend(t *testing.T) {
	for _, l := range cases() {
		sources := make([][]int, len(l))
		for of, x := range l {
			var descend []int
			for in, share := range shares(l, of) {
				if share.Sign() > 0 && in != of {
					descend = append(descend, in)
				}
				if share.Sign() > 0 && len(x.Parts) == 0 {
					sources[in] = append(sources[in], of)
				}
			}
			if got, e := lot.Descend(l, of); !slices.Equal(got, descend) || e != api.OK {
				t.Errorf("P3.5: Descend(%v, %d) is %v, %v, not %v", l, of, got, e, descend)
			}
		}
		for in := range l {
			if got, e := lot.Sources(l, in); !slices.Equal(got, sources[in]) || e != api.OK {
				t.Errorf("P3.5: Sources(%v, %d) is %v, %v, not %v", l, in, got, e, sources[in])
			}
		}
	}
	for in, want := range [][]int{{0}, {1}, {0, 1}, {3}, {0, 1, 3}} {
		if got, e := lot.Sources(example(), in); !slices.Equal(got, want) || e != api.OK {
			t.Errorf("P3.5: Sources(.., %d) of the example is %v, %v", in, got, e)
		}
	}
	for of, want := range [][]int{{2, 4}, {2, 4}, {4}, {4}, {}} {
		if got, e := lot.Descend(example(), of); !slices.Equal(got, want) || e != api.OK {
			t.Errorf("P3.5: Descend(.., %d) of the example is %v, %v", of, got, e)
		}
	}
}

// depth is the length of the longest path that ends with a lot.
func depth(l []api.Lot, in int) int {
	longest := 0
	for _, p := range l[in].Parts {
		longest = max(longest, 1+depth(l, p.Lot))
	}
	return longest
}

func TestDepth(t *testing.T) {
	for _, l := range few() {
		for in := range l {
			if got, e := lot.Depth(l, in); got != depth(l, in) || e != api.OK {
				t.Errorf("P3.6: Depth(%v, %d) is %d, %v, not %d", l, in, got, e, depth(l, in))
			}
		}
	}
	for in, want := range []int{0, 0, 1, 0, 2} {
		if got, e := lot.Depth(example(), in); got != want || e != api.OK {
			t.Errorf("P3.6: Depth(.., %d) of the example is %d, %v", in, got, e)
		}
	}
	// The part of the greatest depth is the first one, and then the last one.
	for _, parts := range [][]api.Part{{part(2, 1), part(0, 1)}, {part(0, 1), part(2, 1)}} {
		l := []api.Lot{made(api.Gum, 9), made(api.Gum, 2, part(0, 2)), made(api.Gum, 2, part(1, 2)), made(api.Gum, 2, parts...)}
		if got, e := lot.Depth(l, 3); got != 3 || e != api.OK {
			t.Errorf("P3.6: Depth(%v, 3) is %d, %v", l, got, e)
		}
	}
	if got, e := lot.Depth(ladder(), api.MaxLots-1); got != api.MaxLots-1 || e != api.OK {
		t.Errorf("P3.6: Depth of the ladder is %d, %v", got, e)
	}
}

// sets returns sets of lots: none, each one, all, and some of two and three.
func sets(n int) [][]int {
	list := [][]int{nil, {}}
	all := []int{}
	for i := range n {
		list = append(list, []int{i})
		if i > 0 {
			list = append(list, []int{i / 2, i})
		}
		if i > 3 {
			list = append(list, []int{i / 3, i/3 + 1, i})
		}
		all = append(all, i)
	}
	return append(list, all)
}

// remaining is P3.7: the old numbers of the lots that are kept, and these lots with their new numbers.
func remaining(l []api.Lot, keep []int) ([]api.Lot, []int) {
	var kept []api.Lot
	var old []int
	for of, x := range copyOf(l) {
		all := shares(l, of)
		if !slices.ContainsFunc(keep, func(in int) bool { return all[in].Sign() > 0 }) {
			continue
		}
		for i := range x.Parts {
			x.Parts[i].Lot = slices.Index(old, x.Parts[i].Lot)
		}
		kept = append(kept, x)
		old = append(old, of)
	}
	return kept, old
}

func TestOnly(t *testing.T) {
	for _, l := range few() {
		for _, keep := range sets(len(l)) {
			kept, old := remaining(l, keep)
			got, numbers, e := lot.Only(l, keep)
			if !same(got, kept) || !slices.Equal(numbers, old) || e != api.OK {
				t.Errorf("P3.7: Only(%v, %v) is %v, %v, %v, not %v, %v", l, keep, got, numbers, e, kept, old)
				continue
			}
			for of := range got {
				for in := range got {
					share, e := lot.Share(got, of, in)
					if was, we := lot.Share(l, old[of], old[in]); share != was || e != we {
						t.Errorf("P3.7: in Only(%v, %v), the share of %d in %d is %v, not %v", l, keep, of, in, share, was)
					}
				}
			}
		}
	}
	want := []api.Lot{made(api.Oil, 9), made(api.Gum, 5, part(0, 5)), made(api.Mass, 4, part(1, 4))}
	l := []api.Lot{made(api.Rosin, 9), made(api.Oil, 9), made(api.Cork, 1, part(0, 1)), made(api.Gum, 5, part(1, 5)), made(api.Mass, 4, part(3, 4)), made(api.Mass, 1, part(3, 1), part(0, 1))}
	if got, old, e := lot.Only(l, []int{4}); !same(got, want) || !slices.Equal(old, []int{1, 3, 4}) || e != api.OK {
		t.Errorf("P3.7: Only is %v, %v, %v", got, old, e)
	}
}

func TestOnlyRefuses(t *testing.T) {
	for _, keep := range [][]int{{2, 2}, {3, 2}, {0, 1, 1}, {-1}, {5}, {-1, 0}, {0, 5}, {0, 1, 2, 3, 4, 5}, {math.MinInt}, {math.MaxInt}, {0, math.MaxInt}, {math.MaxInt, 0}} {
		if got, old, e := lot.Only(example(), keep); len(got) != 0 || len(old) != 0 || e != api.ErrArg {
			t.Errorf("P3.7: Only(.., %v) is %v, %v, %v", keep, got, old, e)
		}
	}
	if got, old, e := lot.Only(nil, []int{0}); len(got) != 0 || len(old) != 0 || e != api.ErrArg {
		t.Errorf("P3.7: Only(nil, 0) is %v, %v, %v", got, old, e)
	}
}
