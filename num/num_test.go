package num_test

import (
	"math"
	"math/big"
	"testing"

	"linoleum/api"
	"linoleum/num"
)

func rat(n, d int) api.Rat { return api.Rat{Num: n, Den: d} }

// valid is P1.1 word by word, without the arithmetic of the package.
func valid(n, d *big.Int) bool {
	if d.Sign() <= 0 || d.Cmp(big.NewInt(api.MaxDen)) > 0 || new(big.Int).Abs(n).Cmp(big.NewInt(api.MaxNum)) > 0 {
		return false
	}
	return new(big.Int).GCD(nil, nil, new(big.Int).Abs(n), d).Cmp(big.NewInt(1)) == 0
}

func big2(r api.Rat) *big.Rat { return big.NewRat(int64(r.Num), int64(r.Den)) }

// answer is what a call must return for an exact value (big.Rat keeps values in lowest terms).
func answer(x *big.Rat) (api.Rat, api.Errno) {
	if !valid(x.Num(), x.Denom()) {
		return api.Rat{}, api.ErrLarge
	}
	return rat(int(x.Num().Int64()), int(x.Denom().Int64())), api.OK
}

func numbers() []int {
	list := []int{0, math.MaxInt, math.MaxInt - 1, math.MinInt, math.MinInt + 1, 1000003, -720720}
	for _, n := range []int{1, 2, 3, 4, 6, 12, 97, api.MaxDen, api.MaxNum, 1 << 30, 3 << 30, 1 << 41, 1 << 62} {
		list = append(list, n, -n, n-1, 1-n, n+1, -n-1)
	}
	return list
}

func validRats() []api.Rat {
	var list []api.Rat
	for _, n := range numbers() {
		for _, d := range []int{1, 2, 3, 4, 5, 12, 97, 1 << 10, 720720, api.MaxDen - 1, api.MaxDen} {
			if valid(big.NewInt(int64(n)), big.NewInt(int64(d))) {
				list = append(list, rat(n, d))
			}
		}
	}
	return list
}

func invalidRats() []api.Rat {
	return []api.Rat{
		{}, {Num: 1}, {Num: -3, Den: 0}, {Num: 0, Den: 2}, {Num: 0, Den: -1}, {Num: 2, Den: 4}, {Num: -6, Den: 3},
		{Num: 1, Den: -2}, {Num: -1, Den: -2}, {Num: api.MaxNum + 1, Den: 1}, {Num: -api.MaxNum - 1, Den: 1},
		{Num: 1, Den: api.MaxDen + 1}, {Num: api.MaxNum, Den: api.MaxDen}, {Num: math.MinInt, Den: 1},
		{Num: math.MinInt, Den: math.MinInt}, {Num: math.MaxInt, Den: math.MaxInt}, {Num: 1, Den: math.MinInt},
	}
}

func TestValid(t *testing.T) {
	for _, n := range numbers() {
		for _, d := range numbers() {
			if is, want := num.Valid(rat(n, d)), valid(big.NewInt(int64(n)), big.NewInt(int64(d))); is != want {
				t.Errorf("P1.1: Valid(%d/%d) is %v", n, d, is)
			}
		}
	}
	for _, r := range []api.Rat{rat(0, 1), rat(api.MaxNum, 1), rat(-api.MaxNum, 1), rat(1, api.MaxDen), rat(api.MaxNum-1, api.MaxDen), rat(-3, 2)} {
		if !num.Valid(r) {
			t.Errorf("P1.1: Valid(%v) is false", r)
		}
	}
	for _, r := range invalidRats() {
		if num.Valid(r) {
			t.Errorf("P1.1: Valid(%v) is true", r)
		}
	}
}

func TestMake(t *testing.T) {
	for _, n := range numbers() {
		for _, d := range numbers() {
			got, e := num.Make(n, d)
			want, we := api.Rat{}, api.ErrArg
			if d != 0 {
				want, we = answer(new(big.Rat).SetFrac(big.NewInt(int64(n)), big.NewInt(int64(d))))
			}
			if got != want || e != we {
				t.Errorf("P1.1: Make(%d, %d) is %v, %v, not %v, %v", n, d, got, e, want, we)
			}
		}
	}
	for _, x := range []struct {
		n, d int
		want api.Rat
		e    api.Errno
	}{
		{6, -4, rat(-3, 2), api.OK},
		{-6, -4, rat(3, 2), api.OK},
		{0, math.MinInt, rat(0, 1), api.OK},
		{math.MinInt, math.MinInt, rat(1, 1), api.OK},
		{math.MinInt, -1 << 23, rat(1<<40, 1), api.OK},
		{math.MinInt, 1 << 22, api.Rat{}, api.ErrLarge},
		{1 << 43, 1 << 62, rat(1, 1<<19), api.OK},
		{1 << 42, 1 << 62, rat(1, 1<<20), api.OK},
		{1 << 41, 1 << 62, api.Rat{}, api.ErrLarge},
		{0, 0, api.Rat{}, api.ErrArg},
		{math.MaxInt, 0, api.Rat{}, api.ErrArg},
	} {
		if got, e := num.Make(x.n, x.d); got != x.want || e != x.e {
			t.Errorf("P1.1: Make(%d, %d) is %v, %v", x.n, x.d, got, e)
		}
	}
}

func TestArithmetic(t *testing.T) {
	for _, op := range []struct {
		name  string
		do    func(a, b api.Rat) (api.Rat, api.Errno)
		exact func(z, a, b *big.Rat) *big.Rat
	}{
		{"Add", num.Add, (*big.Rat).Add},
		{"Sub", num.Sub, (*big.Rat).Sub},
		{"Mul", num.Mul, (*big.Rat).Mul},
		{"Div", num.Div, (*big.Rat).Quo},
	} {
		for _, a := range validRats() {
			for _, b := range validRats() {
				got, e := op.do(a, b)
				want, we := api.Rat{}, api.ErrArg
				if op.name != "Div" || b.Num != 0 {
					want, we = answer(op.exact(new(big.Rat), big2(a), big2(b)))
				}
				if got != want || e != we {
					t.Fatalf("P1.2: %s(%v, %v) is %v, %v, not %v, %v", op.name, a, b, got, e, want, we)
				}
			}
		}
		for _, r := range invalidRats() {
			for _, ok := range []api.Rat{rat(0, 1), rat(1, 2), rat(api.MaxNum, 1)} {
				if got, e := op.do(r, ok); got != (api.Rat{}) || e != api.ErrArg {
					t.Errorf("P1.2: %s(%v, %v) is %v, %v", op.name, r, ok, got, e)
				}
				if got, e := op.do(ok, r); got != (api.Rat{}) || e != api.ErrArg {
					t.Errorf("P1.2: %s(%v, %v) is %v, %v", op.name, ok, r, got, e)
				}
			}
			if got, e := op.do(r, r); got != (api.Rat{}) || e != api.ErrArg {
				t.Errorf("P1.2: %s(%v, %v) is %v, %v", op.name, r, r, got, e)
			}
		}
	}
}

// The limits of the results, at which an intermediate product no longer fits an int.
func TestArithmeticAtTheLimits(t *testing.T) {
	type call struct {
		name       string
		do         func(a, b api.Rat) (api.Rat, api.Errno)
		a, b, want api.Rat
		e          api.Errno
	}
	large := api.Rat{}
	for _, x := range []call{
		{"Add", num.Add, rat(api.MaxNum, 1), rat(0, 1), rat(api.MaxNum, 1), api.OK},
		{"Add", num.Add, rat(api.MaxNum, 1), rat(1, 1), large, api.ErrLarge},
		{"Add", num.Add, rat(-api.MaxNum, 1), rat(api.MaxNum, 1), rat(0, 1), api.OK},
		{"Add", num.Add, rat(1, api.MaxDen), rat(1, api.MaxDen-1), large, api.ErrLarge},
		{"Sub", num.Sub, rat(-api.MaxNum, 1), rat(1, api.MaxDen), large, api.ErrLarge},
		{"Sub", num.Sub, rat(1, 3), rat(1, 3), rat(0, 1), api.OK},
		{"Mul", num.Mul, rat(api.MaxNum, 1), rat(api.MaxNum, 1), large, api.ErrLarge},
		{"Mul", num.Mul, rat(1<<32, 1), rat(1<<32, 1), large, api.ErrLarge},
		{"Mul", num.Mul, rat(1<<40, 3), rat(3, 1<<20), rat(1<<20, 1), api.OK},
		{"Mul", num.Mul, rat(1<<40-1, 1<<20), rat(1<<20, 1<<20-1), rat(1<<20+1, 1), api.OK},
		{"Mul", num.Mul, rat(-1, 1<<10), rat(1, 1<<10), rat(-1, 1<<20), api.OK},
		{"Mul", num.Mul, rat(1, 1<<10), rat(1, 1<<11), large, api.ErrLarge},
		{"Mul", num.Mul, rat(0, 1), rat(5, 1<<20), rat(0, 1), api.OK},
		{"Div", num.Div, rat(5, 6), rat(-3, 4), rat(-10, 9), api.OK},
		{"Div", num.Div, rat(-1, 1), rat(-1<<20, 1), rat(1, 1<<20), api.OK},
		{"Div", num.Div, rat(1, 1), rat(1<<20+1, 1), large, api.ErrLarge},
		{"Div", num.Div, rat(api.MaxNum, 1), rat(1, api.MaxDen), large, api.ErrLarge},
		{"Div", num.Div, rat(0, 1), rat(-7, 3), rat(0, 1), api.OK},
		{"Div", num.Div, rat(0, 1), rat(0, 1), large, api.ErrArg},
		{"Div", num.Div, rat(api.MaxNum, 1), rat(0, 1), large, api.ErrArg},
	} {
		if got, e := x.do(x.a, x.b); got != x.want || e != x.e {
			t.Errorf("P1.2: %s(%v, %v) is %v, %v", x.name, x.a, x.b, got, e)
		}
	}
}

func TestCompare(t *testing.T) {
	for _, a := range validRats() {
		for _, b := range validRats() {
			if got, e := num.Compare(a, b); got != big2(a).Cmp(big2(b)) || e != api.OK {
				t.Fatalf("P1.2: Compare(%v, %v) is %d, %v", a, b, got, e)
			}
		}
	}
	for _, r := range invalidRats() {
		if got, e := num.Compare(r, rat(1, 2)); got != 0 || e != api.ErrArg {
			t.Errorf("P1.2: Compare(%v, 1/2) is %d, %v", r, got, e)
		}
		if got, e := num.Compare(rat(1, 2), r); got != 0 || e != api.ErrArg {
			t.Errorf("P1.2: Compare(1/2, %v) is %d, %v", r, got, e)
		}
	}
}

// nearest is P1.3 for Round: the even one of two whole numbers that are equally near.
func nearest(r api.Rat, floor int) int {
	below := new(big.Rat).Sub(big2(r), big.NewRat(int64(floor), 1))
	switch below.Cmp(big.NewRat(1, 2)) {
	case -1:
		return floor
	case 1:
		return floor + 1
	}
	if floor&1 == 0 {
		return floor
	}
	return floor + 1
}

func TestFloorAndRound(t *testing.T) {
	list := validRats()
	for n := -40; n <= 40; n++ {
		for d := 1; d <= 12; d++ {
			if r, e := answer(big.NewRat(int64(n), int64(d))); e == api.OK {
				list = append(list, r)
			}
		}
	}
	for _, r := range list {
		// Div of package big rounds down for a divisor above 0.
		floor := int(new(big.Int).Div(big.NewInt(int64(r.Num)), big.NewInt(int64(r.Den))).Int64())
		if got, e := num.Floor(r); got != floor || e != api.OK {
			t.Errorf("P1.3: Floor(%v) is %d, %v", r, got, e)
		}
		if got, e := num.Round(r); got != nearest(r, floor) || e != api.OK {
			t.Errorf("P1.3: Round(%v) is %d, %v", r, got, e)
		}
	}
	for _, x := range []struct {
		r            api.Rat
		floor, round int
	}{
		{rat(5, 2), 2, 2}, {rat(7, 2), 3, 4}, {rat(-1, 2), -1, 0}, {rat(1, 2), 0, 0}, {rat(3, 2), 1, 2},
		{rat(-3, 2), -2, -2}, {rat(-5, 2), -3, -2}, {rat(-7, 2), -4, -4}, {rat(0, 1), 0, 0}, {rat(-4, 1), -4, -4},
	} {
		floor, fe := num.Floor(x.r)
		round, re := num.Round(x.r)
		if floor != x.floor || round != x.round || fe != api.OK || re != api.OK {
			t.Errorf("P1.3: Floor and Round of %v are %d, %v and %d, %v", x.r, floor, fe, round, re)
		}
	}
	for _, r := range invalidRats() {
		if got, e := num.Floor(r); got != 0 || e != api.ErrArg {
			t.Errorf("P1.3: Floor(%v) is %d, %v", r, got, e)
		}
		if got, e := num.Round(r); got != 0 || e != api.ErrArg {
			t.Errorf("P1.3: Round(%v) is %d, %v", r, got, e)
		}
	}
}
