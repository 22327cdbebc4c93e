package pattern_test

import (
	"math"
	"math/rand"
	"slices"
	"testing"

	"linoleum/api"
	"linoleum/pattern"
)

// check compares a result with the definition of its colors, or with ErrLarge if it is too large.
func check(t *testing.T, name string, got api.Pattern, e api.Errno, want api.Pattern) {
	t.Helper()
	we := api.OK
	if want.A*want.C > api.MaxCells {
		want, we = api.Pattern{}, api.ErrLarge
	}
	if !same(got, want) || e != we {
		t.Fatalf("P5.3: %s is %v, %v, not %v, %v", name, got, e, want, we)
	}
}

// inRectangles returns the cases whose repeats make small rectangles, by which a turned pattern is examined.
func inRectangles() []api.Pattern {
	return slices.DeleteFunc(slices.Concat(cases(), smalls()), func(p api.Pattern) bool { return p.A*around(p) > 2000 })
}

func TestShift(t *testing.T) {
	random := rand.New(rand.NewSource(11))
	for _, p := range slices.Concat(cases(), smalls()) {
		f := colorsOf(p)
		for _, v := range vectors(random, 2) {
			got, e := pattern.Shift(p, v[0], v[1])
			check(t, "Shift", got, e, leastOf(func(x, y int) int { return f(x-v[0], y-v[1]) }, p.A, p.B, p.C))
		}
	}
	for _, x := range []struct {
		dx, dy int
		want   api.Pattern
	}{{1, 0, grid(3, 0, 2, 0, 1, 2, 0, 3, 0)}, {-1, 0, grid(3, 0, 2, 2, 0, 1, 0, 0, 3)}, {0, 1, grid(3, 0, 2, 3, 0, 0, 1, 2, 0)}, {api.MaxPlace, -api.MaxPlace, grid(3, 0, 2, 0, 1, 2, 0, 3, 0)}} {
		got, e := pattern.Shift(grid(3, 0, 2, 1, 2, 0, 3, 0, 0), x.dx, x.dy)
		check(t, "Shift", got, e, x.want)
	}
}

func TestTurn(t *testing.T) {
	for _, p := range inRectangles() {
		f := colorsOf(p)
		got, e := pattern.Turn(p)
		check(t, "Turn", got, e, leastOf(func(x, y int) int { return f(y, -x) }, around(p), 0, p.A))
		for range 3 {
			got, e = pattern.Turn(got)
		}
		check(t, "Turn four times", got, e, least(p))
	}
	got, e := pattern.Turn(grid(3, 0, 2, 1, 2, 0, 3, 0, 0))
	check(t, "Turn", got, e, grid(2, 0, 3, 1, 3, 2, 0, 0, 0))
	// Periods 144, 0 and 1, 1 become 0, 144 and -1, 1.
	got, e = pattern.Turn(plain(144, 1, 1, 5, 1))
	check(t, "Turn", got, e, plain(144, 143, 1, 5, 1))
	got, e = pattern.Turn(plain(144, 0, 1, 5, 1))
	check(t, "Turn", got, e, plain(1, 0, 144, 5, 1))
}

func TestMirror(t *testing.T) {
	for _, p := range inRectangles() {
		f := colorsOf(p)
		got, e := pattern.Mirror(p)
		check(t, "Mirror", got, e, leastOf(func(x, y int) int { return f(-x, y) }, p.A, 0, around(p)))
		got, e = pattern.Mirror(got)
		check(t, "Mirror twice", got, e, least(p))
	}
	got, e := pattern.Mirror(grid(3, 0, 2, 1, 2, 0, 3, 0, 0))
	check(t, "Mirror", got, e, grid(3, 0, 2, 1, 0, 2, 3, 0, 0))
	got, e = pattern.Mirror(plain(144, 1, 1, 5, 1))
	check(t, "Mirror", got, e, plain(144, 143, 1, 139, 1))
}

func TestRecolor(t *testing.T) {
	random := rand.New(rand.NewSource(12))
	for _, p := range slices.Concat(cases(), smalls()) {
		for range 3 {
			table := make([]int, api.MaxColors)
			for c := range table {
				table[c] = random.Intn(1 + random.Intn(api.MaxColors))
			}
			got, e := pattern.Recolor(p, table)
			check(t, "Recolor", got, e, leastOf(func(x, y int) int { return table[colorsOf(p)(x, y)] }, p.A, p.B, p.C))
		}
	}
	got, e := pattern.Recolor(grid(3, 0, 2, 1, 2, 0, 3, 0, 0), []int{1, 0, 2, 3, 4, 5, 6, 7})
	check(t, "Recolor", got, e, grid(3, 0, 2, 0, 2, 1, 3, 1, 1))
	// Colors that become one color make the repeat smaller.
	got, e = pattern.Recolor(grid(4, 0, 1, 0, 1, 2, 1), []int{3, 4, 3, 0, 0, 0, 0, 0})
	check(t, "Recolor", got, e, grid(2, 0, 1, 3, 4))
	for _, table := range [][]int{
		nil, {}, {0}, {0, 1, 2, 3, 4, 5, 6}, {0, 1, 2, 3, 4, 5, 6, 7, 0},
		{8, 1, 2, 3, 4, 5, 6, 7}, {0, 1, 2, 3, 4, 5, 6, 8}, {0, 1, 2, 3, 4, 5, 6, -1}, {0, 1, math.MinInt, 3, 4, 5, 6, 7}, {0, 1, 2, 3, 4, 5, 6, math.MaxInt},
	} {
		// Colors that the pattern does not have are examined, too.
		if got, e := pattern.Recolor(chess(), table); !isZero(got) || e != api.ErrArg {
			t.Errorf("P5.3: Recolor(.., %v) is %v, %v", table, got, e)
		}
	}
}

func common(a, b int) int {
	n := a
	for n%b != 0 {
		n += a
	}
	return n
}

func overOf(a, b api.Pattern) colors {
	return func(x, y int) int {
		if c := colorsOf(a)(x, y); c != 0 {
			return c
		}
		return colorsOf(b)(x, y)
	}
}

func TestOver(t *testing.T) {
	random := rand.New(rand.NewSource(13))
	count := map[api.Errno]int{}
	for range 3000 {
		a, b := randomPattern(random, 16, 1+random.Intn(4)), randomPattern(random, 16, 1+random.Intn(4))
		width, height := common(a.A, b.A), common(around(a), around(b))
		if width*height > 1000 {
			continue
		}
		got, e := pattern.Over(a, b)
		check(t, "Over", got, e, leastOf(overOf(a, b), width, 0, height))
		count[e]++
	}
	if count[api.OK] < 1000 || count[api.ErrLarge] < 100 {
		t.Error("the cases do not cover the outcomes:", count)
	}
	for _, x := range []struct{ a, b, want api.Pattern }{
		{grid(4, 0, 1, 1, 0, 0, 0), grid(1, 0, 4, 2, 0, 0, 0), grid(4, 0, 4, 1, 2, 2, 2, 1, 0, 0, 0, 1, 0, 0, 0, 1, 0, 0, 0)},
		{grid(1, 0, 1, 3), grid(4, 0, 1, 1, 0, 0, 0), grid(1, 0, 1, 3)},
		{grid(1, 0, 1, 0), chess(), grid(2, 1, 1, 0, 1)},
		{chess(), grid(2, 1, 1, 1, 0), grid(1, 0, 1, 1)},
		{chess(), grid(2, 1, 1, 2, 0), grid(2, 1, 1, 2, 1)},
	} {
		got, e := pattern.Over(x.a, x.b)
		check(t, "Over", got, e, x.want)
	}
}

// The limit is that of the result, whatever the common periods of the two are.
func TestOverAtTheLimits(t *testing.T) {
	full := plain(143, 17, 1, 0, 2)
	for i := range full.Cells {
		full.Cells[i] = 1 + i%7
	}
	for _, x := range []struct{ a, b, want api.Pattern }{
		{full, plain(12, 5, 12, 77, 3), full},
		{zeros(144, 7, 1, 144), full, full},
		{zeros(1, 0, 144, 144), plain(12, 5, 12, 77, 3), plain(12, 5, 12, 77, 3)},
		// The columns of one and the rows of the other one.
		{plain(12, 0, 1, 0, 1), zeros(1, 0, 12, 12), plain(12, 0, 1, 0, 1)},
		{plain(144, 0, 1, 0, 1), plain(72, 0, 1, 0, 2), leastOf(overOf(plain(144, 0, 1, 0, 1), plain(72, 0, 1, 0, 2)), 144, 0, 1)},
		{plain(12, 0, 1, 0, 1), plain(1, 0, 12, 0, 2), leastOf(overOf(plain(12, 0, 1, 0, 1), plain(1, 0, 12, 0, 2)), 12, 0, 12)},
		{plain(9, 0, 1, 0, 1), plain(16, 0, 1, 0, 2), leastOf(overOf(plain(9, 0, 1, 0, 1), plain(16, 0, 1, 0, 2)), 144, 0, 1)},
	} {
		got, e := pattern.Over(x.a, x.b)
		if !same(got, x.want) || e != api.OK || len(got.Cells) > api.MaxCells {
			t.Errorf("P5.3: Over(%v, %v) is %v, %v, not %v", x.a, x.b, got, e, x.want)
		}
	}
	for _, x := range []struct{ a, b api.Pattern }{
		{plain(5, 0, 1, 0, 1), plain(29, 0, 1, 0, 1)},
		{plain(144, 0, 1, 0, 1), plain(143, 0, 1, 0, 1)},
		{plain(144, 0, 1, 0, 1), plain(1, 0, 2, 0, 2)},
		{plain(12, 0, 1, 0, 1), plain(1, 0, 13, 0, 2)},
		{plain(12, 5, 12, 0, 1), plain(11, 3, 13, 0, 2)},
		{plain(1, 0, 144, 0, 1), plain(1, 0, 143, 0, 2)},
	} {
		if got, e := pattern.Over(x.a, x.b); !isZero(got) || e != api.ErrLarge {
			t.Errorf("P5.3: Over(%v, %v) is %v, %v", x.a, x.b, got, e)
		}
	}
	// Of 20592 cells, two colors differ in one: the repeat is that large.
	bottom := zeros(11, 3, 13, 143)
	for i := range bottom.Cells {
		bottom.Cells[i] = 1
	}
	bottom.Cells[142] = 2
	top := copyOf(plain(12, 5, 12, 0, 0))
	for i := range top.Cells {
		top.Cells[i] = 1
	}
	top.Cells[143] = 0
	if got, e := pattern.Over(top, bottom); !isZero(got) || e != api.ErrLarge {
		t.Errorf("P5.3: Over(%v, %v) is %v, %v", top, bottom, got, e)
	}
	bottom.Cells[142] = 1
	if got, e := pattern.Over(top, bottom); !same(got, grid(1, 0, 1, 1)) || e != api.OK {
		t.Errorf("P5.3: Over(%v, %v) is %v, %v", top, bottom, got, e)
	}
}

func TestSwell(t *testing.T) {
	random := rand.New(rand.NewSource(14))
	count := map[api.Errno]int{}
	list := smalls()
	for range 200 {
		list = append(list, randomPattern(random, 8, 3))
	}
	for _, p := range list {
		f := colorsOf(p)
		for times := 1; times <= 12; times++ {
			if len(p.Cells)*times*times > 400 && times != 12 {
				continue
			}
			got, e := pattern.Swell(p, times)
			check(t, "Swell", got, e, leastOf(func(x, y int) int { return f(down(x, times), down(y, times)) }, p.A*times, p.B*times, p.C*times))
			count[e]++
		}
	}
	if count[api.OK] < 500 || count[api.ErrLarge] < 100 {
		t.Error("the cases do not cover the outcomes:", count)
	}
	for _, x := range []struct {
		p     api.Pattern
		times int
		want  api.Pattern
	}{
		{chess(), 2, grid(4, 2, 2, 0, 0, 1, 1, 0, 0, 1, 1)},
		{grid(3, 1, 1, 0, 1, 2), 1, grid(3, 1, 1, 0, 1, 2)},
		// The limit is that of the result: a plain color, and stripes, which swell in one direction only.
		{zeros(12, 5, 12, 144), 12, grid(1, 0, 1, 0)},
		{plain(1, 0, 2, 0, 1), 2, grid(1, 0, 4, 1, 1, 0, 0)},
	} {
		got, e := pattern.Swell(x.p, x.times)
		check(t, "Swell", got, e, x.want)
	}
	if got, e := pattern.Swell(plain(1, 0, 12, 0, 1), 12); len(got.Cells) != 144 || got.C != 144 || e != api.OK {
		t.Errorf("P5.3: Swell of 12 stripes is %v, %v", got, e)
	}
	if got, e := pattern.Swell(plain(3, 0, 4, 0, 1), 12); !isZero(got) || e != api.ErrLarge {
		t.Errorf("P5.3: Swell to 1728 cells is %v, %v", got, e)
	}
	if got, e := pattern.Swell(plain(12, 0, 12, 0, 1), 12); !isZero(got) || e != api.ErrLarge {
		t.Errorf("P5.3: Swell to 20736 cells is %v, %v", got, e)
	}
	for _, times := range []int{0, -1, 13, math.MaxInt, math.MinInt, 1 << 32} {
		for _, p := range []api.Pattern{grid(1, 0, 1, 3), wall(), plain(12, 0, 12, 0, 1)} {
			if got, e := pattern.Swell(p, times); !isZero(got) || e != api.ErrArg {
				t.Errorf("P5.3: Swell(.., %d) is %v, %v", times, got, e)
			}
		}
	}
}
