package roll_test

import (
	"math"
	"math/rand"
	"slices"
	"testing"

	"linoleum/api"
	"linoleum/roll"
)

// worthOf returns the greatest value of a cutting of the first n places, for each n, found from all cuttings.
func worthOf(x job) []int {
	var worth []int
	for n := range len(spell(x.b)) + 1 {
		most := 0
		for _, cutting := range x.cuttings(0, n) {
			most = max(most, x.value(cutting))
		}
		worth = append(worth, most)
	}
	return worth
}

func TestBestAndWorthOfAllCuttings(t *testing.T) {
	for _, x := range append(jobs(12, 500, 7), example(), flawed()) {
		want := worthOf(x)
		if got, e := roll.Worth(x.b, x.l); !slices.Equal(got, want) || e != api.OK {
			t.Errorf("P7.4: Worth(%v, %v) is %v, %v, not %v", x.b, x.l, got, e, want)
		}
		expectBest(t, x, want[len(want)-1])
	}
}

func expectBest(t *testing.T, x job, want int) {
	t.Helper()
	cutting, value, e := roll.Best(x.b, x.l)
	if value != want || x.check(cutting) != api.OK || x.value(cutting) != want || e != api.OK {
		t.Errorf("P7.4: Best(%v, %v) is %v, %v, %v, not worth %v", x.b, x.l, cutting, value, e, want)
	}
	if e := roll.Check(x.b, x.l, cutting); e != api.OK {
		t.Errorf("P7.4: Check(%v, %v, %v) is %v", x.b, x.l, cutting, e)
	}
}

// bestFrom returns, from the end of the band to its beginning, the greatest values of cuttings of its last places.
func bestFrom(x job) int {
	length := len(spell(x.b))
	worth := make([]int, length+1)
	for from := length - 1; from >= 0; from-- {
		worth[from] = worth[from+1]
		for n, a := range x.l {
			if x.fits(api.Piece{From: from, Article: n}) {
				worth[from] = max(worth[from], a.Price+worth[from+a.Length])
			}
		}
	}
	return worth[0]
}

func TestBestOfLongBands(t *testing.T) {
	for _, x := range append(cases(), jobs(13, 200, 80)...) {
		expectBest(t, x, bestFrom(x))
	}
	full := []api.Run{run(api.MaxCut, 20, 0)}
	expectBest(t, job{full, []api.Article{article(1, api.MaxPrice)}}, api.MaxCut*api.MaxPrice)
	expectBest(t, job{full, []api.Article{article(api.MaxCut, 7)}}, 7)
	expectBest(t, job{full, []api.Article{article(1, 0)}}, 0)
	expectBest(t, job{nil, example().l}, 0)
	expectBest(t, job{full, nil}, 0)
}

// The worth of the first n places is that of the band that ends there.
func TestWorthOfBeginnings(t *testing.T) {
	for _, x := range jobs(14, 100, 20) {
		worth, e := roll.Worth(x.b, x.l)
		if len(worth) != len(spell(x.b))+1 || e != api.OK {
			t.Errorf("P7.4: Worth(%v, %v) is %v, %v", x.b, x.l, worth, e)
			continue
		}
		for n := range worth {
			if want := bestFrom(job{normal(spell(x.b)[:n]), x.l}); worth[n] != want {
				t.Errorf("P7.4: Worth(%v, %v) is %v: %v at %d, not %v", x.b, x.l, worth, worth[n], n, want)
			}
		}
	}
	x := example()
	if worth, e := roll.Worth(x.b, x.l); !slices.Equal(worth, []int{0, 0, 6, 10, 12, 16, 20, 22}) || e != api.OK {
		t.Errorf("P7.4: chapter 7, example 1: Worth is %v, %v", worth, e)
	}
	if worth, e := roll.Worth(nil, x.l); !slices.Equal(worth, []int{0}) || e != api.OK {
		t.Errorf("P7.4: Worth of the empty band is %v, %v", worth, e)
	}
}

// bound is P7.5 word by word.
func (x job) bound(potentials []int) (int, api.Errno) {
	length := len(spell(x.b))
	if len(potentials) != length+1 || potentials[0] != 0 {
		return 0, api.ErrArg
	}
	for i, n := range potentials {
		if n > 1<<40 || i > 0 && n < potentials[i-1] {
			return 0, api.ErrArg
		}
	}
	for n, a := range x.l {
		for from := range length {
			if x.fits(api.Piece{From: from, Article: n}) && potentials[from+a.Length]-potentials[from] < a.Price {
				return 0, api.ErrRule
			}
		}
	}
	return potentials[length], api.OK
}

func expectBound(t *testing.T, x job, potentials []int) api.Errno {
	t.Helper()
	want, wanted := x.bound(potentials)
	if n, e := roll.Bound(x.b, x.l, potentials); n != want || e != wanted {
		t.Errorf("P7.5: Bound(%v, %v, %v) is %v, %v, not %v, %v", x.b, x.l, potentials, n, e, want, wanted)
	}
	return wanted
}

// Potentials that are near to those of Potentials meet all outcomes; no bound is below the greatest value.
func TestBound(t *testing.T) {
	random := rand.New(rand.NewSource(15))
	count := map[api.Errno]int{}
	for _, x := range append(jobs(16, 400, 12), example(), flawed()) {
		best := bestFrom(x)
		right, _ := roll.Potentials(x.b, x.l)
		for range 20 {
			near := slices.Clone(right)
			for i := 1; i < len(near); i++ {
				near[i] += []int{0, 0, 0, 0, 1, -1}[random.Intn(6)]
				if random.Intn(8) > 0 {
					near[i] = max(near[i], near[i-1])
				}
			}
			e := expectBound(t, x, near)
			count[e]++
			if e == api.OK && near[len(near)-1] < best {
				t.Errorf("S3: the potentials %v of %v are accepted below the value %v", near, x, best)
			}
		}
	}
	for _, e := range []api.Errno{api.OK, api.ErrArg, api.ErrRule} {
		if count[e] < 300 {
			t.Errorf("P7.5: only %d potentials have the error %v", count[e], e)
		}
	}
}

func TestBoundOfWrongPotentials(t *testing.T) {
	const most = 1 << 40
	x := example()
	for _, c := range []struct {
		potentials []int
		e          api.Errno
	}{
		{[]int{0, 0, 6, 10, 12, 16, 20, 22}, api.OK},
		{[]int{0, 3, 6, 10, 13, 16, 20, 23}, api.OK},
		{[]int{0, most, most, most, most, most, most, most}, api.ErrRule},
		{[]int{0, 0, 6, 10, 12, 16, 20, most}, api.OK},
		{[]int{0, 0, 6, 10, 12, 16, 20, most + 1}, api.ErrArg},
		{[]int{0, 0, 6, 10, 12, 16, 20, math.MaxInt}, api.ErrArg},
		{[]int{0, most + 1, most + 2, most + 3, most + 4, most + 5, most + 6, most + 7}, api.ErrArg},
		{[]int{0, 0, 6, 10, 12, 16, 20, 21}, api.ErrRule},
		{[]int{0, 0, 5, 10, 12, 16, 20, 22}, api.ErrRule},
		{[]int{0, 0, 6, 9, 12, 16, 20, 22}, api.ErrRule},
		{[]int{0, 0, 0, 0, 0, 0, 0, 0}, api.ErrRule},
		{nil, api.ErrArg},
		{[]int{}, api.ErrArg},
		{[]int{0}, api.ErrArg},
		{[]int{0, 0, 6, 10, 12, 16, 20}, api.ErrArg},
		{[]int{0, 0, 6, 10, 12, 16, 20, 22, 22}, api.ErrArg},
		{[]int{1, 1, 7, 11, 13, 17, 21, 23}, api.ErrArg},
		{[]int{-1, 0, 6, 10, 12, 16, 20, 22}, api.ErrArg},
		{[]int{math.MinInt, 0, 6, 10, 12, 16, 20, 22}, api.ErrArg},
		{[]int{0, -1, 6, 10, 12, 16, 20, 22}, api.ErrArg},
		{[]int{0, 30, 29, 40, 50, 60, 70, 80}, api.ErrArg},
		{[]int{0, 10, 20, 30, 40, 50, 60, 59}, api.ErrArg},
		// ErrArg comes before ErrRule, also where the rule is broken before.
		{[]int{0, 0, 0, 0, 0, 0, 0, most + 1}, api.ErrArg},
		{[]int{0, 0, 0, 0, 0, 0, 1, 0}, api.ErrArg},
	} {
		if _, wanted := x.bound(c.potentials); wanted != c.e {
			t.Errorf("the test's own bound of %v is %v", c.potentials, wanted)
		}
		expectBound(t, x, c.potentials)
	}
	expectBound(t, job{}, []int{0})
	expectBound(t, job{}, []int{1})
	expectBound(t, job{}, nil)
	// Where nothing can be cut, the potentials need not rise.
	expectBound(t, job{x.b, []api.Article{article(8, 5)}}, make([]int, 8))
}

func TestPotentials(t *testing.T) {
	for _, x := range append(cases(), jobs(17, 200, 80)...) {
		potentials, e := roll.Potentials(x.b, x.l)
		if want, wanted := x.bound(potentials); want != bestFrom(x) || wanted != api.OK || e != api.OK {
			t.Errorf("P7.5: Potentials(%v, %v) is %v, %v: the bound is %v, %v", x.b, x.l, potentials, e, want, wanted)
		}
		_, best, _ := roll.Best(x.b, x.l)
		if n, e := roll.Bound(x.b, x.l, potentials); n != best || e != api.OK {
			t.Errorf("P7.5: Bound of Potentials of %v is %v, %v, not %v", x, n, e, best)
		}
	}
}
