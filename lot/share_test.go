package lot_test

import (
	"math/big"
	"slices"
	"testing"

	"linoleum/api"
	"linoleum/lot"
)

// shares returns the shares of a lot in all lots: one unit of it is followed from lot to lot, in the order of the lots.
func shares(l []api.Lot, of int) []*big.Rat {
	list := make([]*big.Rat, len(l))
	for i, x := range l {
		list[i] = new(big.Rat)
		takes := int64(0)
		for _, p := range x.Parts {
			takes += int64(p.Mass)
			list[i].Add(list[i], new(big.Rat).Mul(list[p.Lot], big.NewRat(int64(p.Mass), 1)))
		}
		if takes > 0 {
			list[i].Quo(list[i], big.NewRat(takes, 1))
		}
		if i == of {
			list[i] = big.NewRat(1, 1)
		}
	}
	return list
}

// answer is what a call must return for an exact value from 0 to 1.
func answer(x *big.Rat) (api.Rat, api.Errno) {
	if x.Denom().Cmp(big.NewInt(api.MaxDen)) > 0 {
		return api.Rat{}, api.ErrLarge
	}
	return rat(int(x.Num().Int64()), int(x.Denom().Int64())), api.OK
}

func exact(r api.Rat) *big.Rat { return big.NewRat(int64(r.Num), int64(r.Den)) }

// leasts returns valid fractions that are, are just below or are just above a value, and others.
func leasts(x *big.Rat) []api.Rat {
	list := []api.Rat{rat(0, 1), rat(1, 1), rat(1, 2), rat(-1, 3), rat(2, 1), rat(1, api.MaxDen), rat(api.MaxDen-1, api.MaxDen), rat(api.MaxNum, 1), rat(-api.MaxNum, 1), rat(api.MaxNum-1, api.MaxDen)}
	for _, d := range []int64{api.MaxDen, api.MaxDen - 1, 720720, 1000, 7} {
		n := new(big.Int).Mul(x.Num(), big.NewInt(d))
		n.Div(n, x.Denom())
		for more := range int64(2) {
			r, _ := answer(big.NewRat(n.Int64()+more, d))
			list = append(list, r)
		}
	}
	if r, e := answer(x); e == api.OK {
		list = append(list, r)
	}
	return list
}

func badRats() []api.Rat {
	return []api.Rat{{}, rat(0, 2), rat(2, 4), rat(1, -2), rat(-1, -2), rat(1, 0), rat(1, api.MaxDen+1), rat(api.MaxNum+1, 1)}
}

func TestShare(t *testing.T) {
	for _, l := range cases() {
		for of := range l {
			for in, share := range shares(l, of) {
				want, we := answer(share)
				if got, e := lot.Share(l, of, in); got != want || e != we {
					t.Fatalf("P3.3: Share(%v, %d, %d) is %v, %v, not %v, %v", l, of, in, got, e, want, we)
				}
			}
		}
	}
	for _, x := range []struct {
		of, in int
		want   api.Rat
	}{{0, 2, rat(3, 5)}, {1, 2, rat(2, 5)}, {0, 4, rat(1, 2)}, {1, 4, rat(1, 3)}, {2, 4, rat(5, 6)}, {4, 4, rat(1, 1)}, {2, 2, rat(1, 1)}, {0, 0, rat(1, 1)}, {2, 0, rat(0, 1)}, {0, 1, rat(0, 1)}, {0, 3, rat(0, 1)}, {4, 2, rat(0, 1)}} {
		if got, e := lot.Share(example(), x.of, x.in); got != x.want || e != api.OK {
			t.Errorf("P3.3: Share(.., %d, %d) of the example is %v, %v", x.of, x.in, got, e)
		}
	}
	// Example 4 of DOC.md.
	mixed := []api.Lot{made(api.Oil, 100), made(api.Oil, 100), made(api.Linoxyn, 7, part(0, 60), part(1, 40))}
	if got, e := lot.Share(mixed, 0, 2); got != rat(3, 5) || e != api.OK {
		t.Errorf("P3.3: after a loss, Share is %v, %v", got, e)
	}
}

// twice has lots 2 and 3: a unit of the lot 0 is diluted to first units, and a unit of these to second units.
func twice(first, second int) []api.Lot {
	return []api.Lot{
		made(api.Rosin, api.MaxMass), made(api.Rosin, api.MaxMass),
		made(api.Gum, first, part(0, 1), part(1, first-1)),
		made(api.Gum, second, part(2, 1), part(1, second-1)),
	}
}

func TestLargeShares(t *testing.T) {
	// The lot 0 is one of first*second units; of the lot 1, the share has the same denominator.
	for _, x := range []struct {
		first, second int
		e             api.Errno
	}{{1024, 1024, api.OK}, {2, 50000, api.OK}, {1024, 1025, api.ErrLarge}, {1025, 1024, api.ErrLarge}, {1023, 1025, api.OK}, {50000, 50000, api.ErrLarge}} {
		l := twice(x.first, x.second)
		for of, n := range []int{1, x.first*x.second - 1} {
			want := rat(n, x.first*x.second)
			if x.e != api.OK {
				want = api.Rat{}
			}
			if got, e := lot.Share(l, of, 3); got != want || e != x.e {
				t.Errorf("P3.3: the share of %d is %v, %v, not %v, %v", of, got, e, want, x.e)
			}
		}
	}
	// Denominators of hundreds of digits, and yet small values.
	last := api.MaxLots - 1
	for of, want := range []api.Rat{rat(1, 2), rat(1, 2)} {
		if got, e := lot.Share(halves(), of, last); got != want || e != api.OK {
			t.Errorf("P3.3: a half is %v, %v", got, e)
		}
	}
	if got, e := lot.Share(ladder(), 0, last); got != rat(1, 1) || e != api.OK {
		t.Errorf("P3.3: the only oil is %v, %v", got, e)
	}
	for of := range 2 {
		if got, e := lot.Share(dilution(99999), of, last); got != (api.Rat{}) || e != api.ErrLarge {
			t.Errorf("P3.3: a share in the dilution is %v, %v", got, e)
		}
	}
}

func TestCompareShare(t *testing.T) {
	for _, l := range cases() {
		for of := range l {
			for in, share := range shares(l, of) {
				for _, least := range leasts(share) {
					if got, e := lot.CompareShare(l, of, in, least); got != share.Cmp(exact(least)) || e != api.OK {
						t.Fatalf("P3.3: CompareShare(%v, %d, %d, %v) is %d, %v", l, of, in, least, got, e)
					}
				}
			}
		}
	}
	for _, r := range badRats() {
		if got, e := lot.CompareShare(example(), 0, 4, r); got != 0 || e != api.ErrArg {
			t.Errorf("P3.3: CompareShare with %v is %d, %v", r, got, e)
		}
	}
	// The share of the lot 1 in the last lot is above 0 by less than 2^-300; no valid fraction is as near.
	last := api.MaxLots - 1
	thin := []api.Lot{made(api.Rosin, api.MaxMass), made(api.Rosin, api.MaxMass)}
	for i := 2; i < api.MaxLots; i++ {
		thin = append(thin, made(api.Gum, 4001, part(i-1, 1), part(0, 4000)))
	}
	if got, e := lot.CompareShare(thin, 1, last, rat(0, 1)); got != 1 || e != api.OK {
		t.Errorf("P3.3: a share that is almost 0 is %d, %v", got, e)
	}
	if got, e := lot.CompareShare(thin, 0, last, rat(1, 1)); got != -1 || e != api.OK {
		t.Errorf("P3.3: a share that is almost 1 is %d, %v", got, e)
	}
	if got, e := lot.Recall(thin, 0, rat(1, 1)); !slices.Equal(got, []int{0}) || e != api.OK {
		t.Errorf("P3.5: Recall of a share that is almost 1 is %v, %v", got, e)
	}
	if got, e := lot.Sources(thin, last); !slices.Equal(got, []int{0, 1}) || e != api.OK {
		t.Errorf("P3.5: Sources with a share that is almost 0 is %v, %v", got, e)
	}
}

func TestRecall(t *testing.T) {
	for _, l := range cases() {
		for of := range l {
			all := shares(l, of)
			tried := []api.Rat{rat(1, 1), rat(1, 2), rat(1, 3), rat(1, api.MaxDen), rat(2, 1)}
			for _, share := range all {
				tried = append(tried, leasts(share)[10:]...)
			}
			for _, least := range tried {
				if least.Num <= 0 {
					continue
				}
				var want []int
				for in, share := range all {
					if share.Cmp(exact(least)) >= 0 {
						want = append(want, in)
					}
				}
				if got, e := lot.Recall(l, of, least); !slices.Equal(got, want) || e != api.OK {
					t.Fatalf("P3.5: Recall(%v, %d, %v) is %v, %v, not %v", l, of, least, got, e, want)
				}
			}
		}
	}
	if got, e := lot.Recall(example(), 0, rat(1, 2)); !slices.Equal(got, []int{0, 2, 4}) || e != api.OK {
		t.Errorf("P3.5: chapter 3, example 3: Recall is %v, %v", got, e)
	}
	for _, r := range append(badRats(), rat(0, 1), rat(-1, 2), rat(-api.MaxNum, 1)) {
		if got, e := lot.Recall(example(), 0, r); len(got) != 0 || e != api.ErrArg {
			t.Errorf("P3.5: Recall with %v is %v, %v", r, got, e)
		}
	}
}

// kinds is P3.6 for one lot: the exact sums of the shares of the received lots, by their kinds.
func kinds(l []api.Lot, in int) []*big.Rat {
	list := make([]*big.Rat, api.MaxKinds)
	for kind := range list {
		list[kind] = new(big.Rat)
	}
	for of, x := range l {
		if len(x.Parts) == 0 {
			list[x.Kind].Add(list[x.Kind], shares(l, of)[in])
		}
	}
	return list
}

func TestKinds(t *testing.T) {
	for _, l := range cases() {
		for in := range l {
			var want []api.Rat
			we := api.OK
			sum := new(big.Rat)
			for _, x := range kinds(l, in) {
				r, e := answer(x)
				want = append(want, r)
				we = max(we, e)
				sum.Add(sum, x)
			}
			if we != api.OK {
				want = nil
			}
			if got, e := lot.Kinds(l, in); !slices.Equal(got, want) || e != we {
				t.Fatalf("P3.6: Kinds(%v, %d) is %v, %v, not %v, %v", l, in, got, e, want, we)
			}
			if sum.Cmp(big.NewRat(1, 1)) != 0 {
				t.Fatalf("P3.6, S1: the shares in the lot %d of %v add up to %v", in, l, sum)
			}
		}
	}
	none := rat(0, 1)
	for _, x := range []struct {
		l    []api.Lot
		in   int
		want []api.Rat
		e    api.Errno
	}{
		{example(), 4, []api.Rat{rat(5, 6), rat(1, 6), none, none, none, none, none, none}, api.OK},
		{example(), 3, []api.Rat{none, rat(1, 1), none, none, none, none, none, none}, api.OK},
		// No single share is a valid fraction, but their sum is.
		{twice(1024, 1025), 3, []api.Rat{none, rat(1, 1), none, none, none, none, none, none}, api.OK},
		{dilution(99999), api.MaxLots - 1, nil, api.ErrLarge},
		// An oil that is made of gum is gum.
		{[]api.Lot{made(api.Gum, 5), made(api.Oil, 5, part(0, 5))}, 1, []api.Rat{none, none, rat(1, 1), none, none, none, none, none}, api.OK},
	} {
		if got, e := lot.Kinds(x.l, x.in); !slices.Equal(got, x.want) || e != x.e {
			t.Errorf("P3.6: Kinds(%v, %d) is %v, %v", x.l, x.in, got, e)
		}
	}
}
