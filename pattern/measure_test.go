package pattern_test

import (
	"math"
	"math/big"
	"math/rand"
	"slices"
	"testing"

	"linoleum/api"
	"linoleum/pattern"
)

func exact(n, d int) api.Rat {
	r := big.NewRat(int64(n), int64(d))
	return api.Rat{Num: int(r.Num().Int64()), Den: int(r.Denom().Int64())}
}

func TestShare(t *testing.T) {
	for _, p := range slices.Concat(cases(), smalls()) {
		sum := new(big.Rat)
		for color := range api.MaxColors {
			count, l := 0, least(p)
			for _, c := range l.Cells {
				if c == color {
					count++
				}
			}
			r, e := pattern.Share(p, color)
			if r != exact(count, len(l.Cells)) || e != api.OK {
				t.Fatalf("P5.4: Share(%v, %d) is %v, %v", p, color, r, e)
			}
			sum.Add(sum, big.NewRat(int64(r.Num), int64(r.Den)))
		}
		if sum.Cmp(big.NewRat(1, 1)) != 0 {
			t.Fatalf("P5.4: the shares of %v add up to %v", p, sum)
		}
	}
	for _, color := range []int{-1, api.MaxColors, math.MaxInt, math.MinInt} {
		if r, e := pattern.Share(chess(), color); r != (api.Rat{}) || e != api.ErrArg {
			t.Errorf("P5.4: Share(.., %d) is %v, %v", color, r, e)
		}
	}
	for color, want := range []api.Rat{exact(0, 1), exact(9, 16), exact(7, 16), exact(0, 1)} {
		if r, e := pattern.Share(wall(), color); r != want || e != api.OK {
			t.Errorf("P5.4: Share(.., %d) is %v, %v", color, r, e)
		}
	}
}

func TestWalls(t *testing.T) {
	for _, p := range slices.Concat(cases(), smalls()) {
		f, count := colorsOf(p), 0
		// One repeat, away from the origin: where it lies makes no difference.
		for y := -3; y < p.C-3; y++ {
			for x := 5; x < p.A+5; x++ {
				for _, next := range []int{f(x+1, y), f(x, y+1)} {
					if next != f(x, y) {
						count++
					}
				}
			}
		}
		if r, e := pattern.Walls(p); r != exact(count, p.A*p.C) || e != api.OK {
			t.Fatalf("P5.4: Walls(%v) is %v, %v", p, r, e)
		}
	}
	for _, x := range []struct {
		p    api.Pattern
		want api.Rat
	}{{chess(), exact(2, 1)}, {grid(1, 0, 1, 4), exact(0, 1)}, {grid(1, 0, 2, 0, 1), exact(1, 1)}, {grid(3, 0, 1, 0, 0, 1), exact(2, 3)}, {grid(3, 1, 1, 0, 0, 1), exact(4, 3)}, {plain(12, 0, 12, 0, 1), exact(1, 36)}} {
		if r, e := pattern.Walls(x.p); r != x.want || e != api.OK {
			t.Errorf("P5.4: Walls(%v) is %v, %v", x.p, r, e)
		}
	}
}

// aligned is P5.5 word by word.
func aligned(a, b api.Pattern) (int, int, bool) {
	l, m := least(a), least(b)
	f := colorsOf(l)
	for dy := range l.C {
		for dx := range l.A {
			if same(leastOf(func(x, y int) int { return f(x-dx, y-dy) }, l.A, l.B, l.C), m) {
				return dx, dy, true
			}
		}
	}
	return 0, 0, false
}

func checkAlign(t *testing.T, a, b api.Pattern) bool {
	t.Helper()
	wx, wy, want := aligned(a, b)
	dx, dy, found, e := pattern.Align(a, b)
	if dx != wx || dy != wy || found != want || e != api.OK {
		t.Fatalf("P5.5: Align(%v, %v) is %d, %d, %v, %v, not %d, %d, %v", a, b, dx, dy, found, e, wx, wy, want)
	}
	return found
}

func TestAlign(t *testing.T) {
	random := rand.New(rand.NewSource(21))
	count := map[bool]int{}
	for range 600 {
		a := randomPattern(random, 16, 2)
		b, e := pattern.Shift(a, random.Intn(200)-100, random.Intn(200)-100)
		if e != api.OK {
			t.Fatal("P5.5:", a, e)
		}
		count[checkAlign(t, spread(random, a), spread(random, b))]++
		b.Cells[random.Intn(len(b.Cells))] ^= 1
		count[checkAlign(t, a, b)]++
		count[checkAlign(t, a, randomPattern(random, 6, 2))]++
	}
	if count[true] < 600 || count[false] < 500 {
		t.Error("the cases do not cover the answers:", count)
	}
	list := smalls()
	for _, a := range list {
		for range 10 {
			checkAlign(t, a, list[random.Intn(len(list))])
		}
	}
	for _, x := range []struct {
		a, b   api.Pattern
		dx, dy int
		found  bool
	}{
		{chess(), chess(), 0, 0, true},
		{chess(), grid(2, 1, 1, 1, 0), 1, 0, true},
		{grid(1, 0, 4, 1, 2, 3, 4), grid(1, 0, 4, 4, 1, 2, 3), 0, 1, true},
		{grid(1, 0, 4, 1, 2, 3, 4), grid(1, 0, 4, 2, 3, 4, 1), 0, 3, true},
		{plain(12, 0, 12, 0, 1), plain(12, 0, 12, 143, 1), 11, 11, true},
		{chess(), grid(1, 0, 2, 0, 1), 0, 0, false},
		{chess(), grid(2, 1, 1, 0, 2), 0, 0, false},
		{grid(3, 1, 1, 0, 1, 2), grid(3, 2, 1, 0, 1, 2), 0, 0, false},
		{grid(1, 0, 1, 1), grid(1, 0, 1, 2), 0, 0, false},
	} {
		if dx, dy, found, e := pattern.Align(x.a, x.b); dx != x.dx || dy != x.dy || found != x.found || e != api.OK {
			t.Errorf("P5.5: Align(%v, %v) is %d, %d, %v, %v", x.a, x.b, dx, dy, found, e)
		}
	}
}

func TestDrum(t *testing.T) {
	for _, p := range slices.Concat(cases(), smalls()) {
		f := colorsOf(p)
		high, wide := 1, 1
		for !repeats(f, p.A, p.C, 0, high) {
			high++
		}
		for !repeats(f, p.A, p.C, wide, 0) {
			wide++
		}
		if up, across, e := pattern.Drum(p); up != high || across != wide || e != api.OK {
			t.Fatalf("P5.6: Drum(%v) is %d, %d, %v, not %d, %d", p, up, across, e, high, wide)
		}
	}
	for _, x := range []struct {
		p            api.Pattern
		high, across int
	}{{chess(), 2, 2}, {wall(), 8, 4}, {grid(3, 1, 1, 0, 1, 2), 3, 3}, {plain(144, 1, 1, 0, 1), 144, 144}, {plain(144, 0, 1, 0, 1), 1, 144}, {plain(12, 8, 12, 0, 1), 36, 12}, {zeros(12, 1, 12, 144), 1, 1}} {
		if up, across, e := pattern.Drum(x.p); up != x.high || across != x.across || e != api.OK {
			t.Errorf("P5.6: Drum(%v) is %d, %d, %v", x.p, up, across, e)
		}
	}
}
