package pattern_test

import (
	"math"
	"math/rand"
	"slices"
	"testing"

	"linoleum/api"
	"linoleum/pattern"
)

func grid(a, b, c int, cells ...int) api.Pattern {
	return api.Pattern{A: a, B: b, C: c, Cells: cells}
}

func chess() api.Pattern { return grid(4, 0, 2, 0, 1, 0, 1, 1, 0, 1, 0) }

// wall is the brick wall of the chapter's last example.
func wall() api.Pattern { return grid(4, 2, 4, 1, 1, 1, 2, 1, 1, 1, 2, 1, 1, 1, 2, 2, 2, 2, 2) }

// same compares patterns field by field; a nil slice and an empty one are the same (R4).
func same(a, b api.Pattern) bool {
	return a.A == b.A && a.B == b.B && a.C == b.C && slices.Equal(a.Cells, b.Cells)
}

func copyOf(p api.Pattern) api.Pattern {
	p.Cells = slices.Clone(p.Cells)
	return p
}

// down is x / n, rounded down.
func down(x, n int) int {
	q := x / n
	for q*n > x {
		q--
	}
	return q
}

type colors func(x, y int) int

// colorsOf is the chapter's definition of the color of a cell.
func colorsOf(p api.Pattern) colors {
	return func(x, y int) int {
		q := down(y, p.C)
		column := x - q*p.B
		column -= down(column, p.A) * p.A
		return p.Cells[(y-q*p.C)*p.A+column]
	}
}

// repeats reports whether moving by a vector changes no color of the cells of a repeat.
func repeats(f colors, width, height, dx, dy int) bool {
	for y := range height {
		for x := range width {
			if f(x, y) != f(x+dx, y+dy) {
				return false
			}
		}
	}
	return true
}

// leastOf is the definition of the least pattern, but for the limit of its size: width, height are those of a repeat, with a period slant, height.
func leastOf(f colors, width, slant, height int) api.Pattern {
	p := grid(width, slant, height)
	for x := width - 1; x > 0; x-- {
		if repeats(f, width, height, x, 0) {
			p.A = x
		}
	}
	p.B = slant - down(slant, p.A)*p.A
	for y := height - 1; y > 0; y-- {
		for x := range p.A {
			if repeats(f, width, height, x, y) {
				p.B, p.C = x, y
				break
			}
		}
	}
	for y := range p.C {
		for x := range p.A {
			p.Cells = append(p.Cells, f(x, y))
		}
	}
	return p
}

func least(p api.Pattern) api.Pattern { return leastOf(colorsOf(p), p.A, p.B, p.C) }

// around is the smallest number above 0 for which 0, around is a sum of the periods A, 0 and B, C.
func around(p api.Pattern) int {
	rows := 1
	for rows*p.B%p.A != 0 {
		rows++
	}
	return rows * p.C
}

func randomPattern(random *rand.Rand, cells, count int) api.Pattern {
	a := 1 + random.Intn(cells)
	if random.Intn(2) == 0 {
		a = 1 + random.Intn(min(4, cells))
	}
	p := grid(a, random.Intn(a), 1+random.Intn(cells/a))
	for range p.A * p.C {
		p.Cells = append(p.Cells, random.Intn(count))
	}
	return p
}

// spread returns the same pattern with a larger repeat.
func spread(random *rand.Rand, p api.Pattern) api.Pattern {
	columns := 1 + random.Intn(api.MaxCells/len(p.Cells))
	rows := 1 + random.Intn(api.MaxCells/len(p.Cells)/columns)
	large := grid(p.A*columns, (p.B*rows+p.A*random.Intn(columns))%(p.A*columns), p.C*rows)
	for y := range large.C {
		for x := range large.A {
			large.Cells = append(large.Cells, colorsOf(p)(x, y))
		}
	}
	return large
}

// plain has one color, but for a cell.
func plain(a, b, c, at, color int) api.Pattern {
	p := api.Pattern{A: a, B: b, C: c, Cells: make([]int, a*c)}
	p.Cells[at] = color
	return p
}

// cases returns the patterns with which every function is compared to its promise, word by word.
func cases() []api.Pattern {
	list := []api.Pattern{
		grid(1, 0, 1, 0), grid(1, 0, 1, 7), grid(2, 1, 1, 0, 7), chess(), wall(), grid(3, 0, 2, 1, 2, 0, 3, 0, 0),
		grid(2, 0, 2, 0, 1, 1, 0), grid(2, 0, 2, 0, 1, 0, 1), grid(2, 1, 2, 0, 1, 0, 1), grid(2, 0, 2, 0, 0, 1, 1), grid(3, 2, 1, 0, 1, 2),
		plain(144, 0, 1, 0, 1), plain(144, 143, 1, 143, 1), plain(1, 0, 144, 143, 7), plain(12, 0, 12, 143, 1), plain(12, 11, 12, 77, 3),
		plain(72, 36, 2, 71, 2), plain(2, 1, 72, 0, 2), plain(48, 20, 3, 0, 0), plain(144, 1, 1, 0, 0), plain(1, 0, 144, 0, 0), plain(11, 3, 13, 5, 5),
	}
	random := rand.New(rand.NewSource(5))
	for range 60 {
		list = append(list, randomPattern(random, 12, 2), randomPattern(random, api.MaxCells, api.MaxColors))
		list = append(list, spread(random, randomPattern(random, 12, 2)), spread(random, randomPattern(random, 30, 3)))
	}
	return list
}

// smalls returns every pattern of at most 4 cells of 2 colors.
func smalls() []api.Pattern {
	var list []api.Pattern
	for cells := 1; cells <= 4; cells++ {
		for a := 1; a <= cells; a++ {
			if cells%a != 0 {
				continue
			}
			for b := range a {
				for n := range 1 << cells {
					p := grid(a, b, cells/a)
					for i := range cells {
						p.Cells = append(p.Cells, n>>i&1)
					}
					list = append(list, p)
				}
			}
		}
	}
	return list
}

type invalid struct {
	p api.Pattern
	e api.Errno
}

func zeros(a, b, c, cells int) api.Pattern {
	return api.Pattern{A: a, B: b, C: c, Cells: make([]int, cells)}
}

func invalids() []invalid {
	return []invalid{
		{api.Pattern{}, api.ErrArg},
		{zeros(0, 0, 1, 0), api.ErrArg}, {zeros(1, 0, 0, 0), api.ErrArg}, {zeros(-1, 0, -1, 1), api.ErrArg}, {zeros(-2, -3, -1, 2), api.ErrArg},
		{zeros(145, 0, 1, 145), api.ErrArg}, {zeros(1, 0, 145, 145), api.ErrArg}, {zeros(145, 0, 145, 3), api.ErrArg}, {zeros(0, 0, 145, 0), api.ErrArg},
		{zeros(math.MaxInt, 0, math.MaxInt, 1), api.ErrArg}, {zeros(math.MinInt, 0, math.MinInt, 0), api.ErrArg}, {zeros(1<<32, 0, 1<<32, 0), api.ErrArg},
		{zeros(2, 2, 1, 2), api.ErrArg}, {zeros(2, -1, 1, 2), api.ErrArg}, {zeros(1, 1, 1, 1), api.ErrArg}, {zeros(2, math.MaxInt, 1, 2), api.ErrArg}, {zeros(2, math.MinInt, 1, 2), api.ErrArg},
		// B is examined before the size, and the size before the cells.
		{zeros(73, 73, 2, 146), api.ErrArg}, {zeros(144, 144, 144, 0), api.ErrArg},
		{zeros(73, 72, 2, 146), api.ErrLarge}, {zeros(73, 0, 2, 3), api.ErrLarge}, {zeros(144, 143, 144, 0), api.ErrLarge}, {zeros(144, 0, 144, 144*144), api.ErrLarge}, {zeros(1, 0, 144, 145), api.ErrArg},
		{grid(5, 0, 29, 9), api.ErrLarge}, {plain(5, 0, 29, 144, 8), api.ErrLarge},
		{grid(2, 0, 1, 0), api.ErrArg}, {grid(2, 0, 1), api.ErrArg}, {grid(2, 0, 1, 0, 0, 0), api.ErrArg}, {zeros(12, 0, 12, 143), api.ErrArg}, {zeros(12, 0, 12, 145), api.ErrArg},
		{grid(1, 0, 1, 8), api.ErrArg}, {grid(1, 0, 1, -1), api.ErrArg}, {plain(12, 5, 12, 143, 8), api.ErrArg}, {plain(12, 5, 12, 0, math.MinInt), api.ErrArg}, {plain(12, 5, 12, 70, math.MaxInt), api.ErrArg},
	}
}

func isZero(p api.Pattern) bool { return same(p, api.Pattern{}) }

// outcome is the error of a call, and whether all its other results are zero values.
type outcome struct {
	name string
	e    api.Errno
	zero bool
}

func ofPattern(name string) func(p api.Pattern, e api.Errno) outcome {
	return func(p api.Pattern, e api.Errno) outcome { return outcome{name, e, isZero(p)} }
}

// outcomes calls every function with a pattern, with other arguments that are right or wrong.
func outcomes(p api.Pattern, place, color, times int, table []int) []outcome {
	var list []outcome
	c, e := pattern.At(p, place, place)
	list = append(list, outcome{"At", e, c == 0}, ofPattern("Least")(pattern.Least(p)))
	is, e := pattern.IsPeriod(p, place, place)
	list = append(list, outcome{"IsPeriod", e, !is})
	x, y, e := pattern.Home(p, place, place)
	list = append(list, outcome{"Home", e, x == 0 && y == 0})
	list = append(list, ofPattern("Shift")(pattern.Shift(p, place, place)), ofPattern("Turn")(pattern.Turn(p)), ofPattern("Mirror")(pattern.Mirror(p)))
	list = append(list, ofPattern("Recolor")(pattern.Recolor(p, table)), ofPattern("Swell")(pattern.Swell(p, times)))
	r, e := pattern.Share(p, color)
	list = append(list, outcome{"Share", e, r == api.Rat{}})
	r, e = pattern.Walls(p)
	list = append(list, outcome{"Walls", e, r == api.Rat{}})
	x, y, e = pattern.Drum(p)
	list = append(list, outcome{"Drum", e, x == 0 && y == 0})
	text, e := pattern.Format(p)
	return append(list, outcome{"Format", e, text == ""})
}

func outcomesOfTwo(a, b api.Pattern) []outcome {
	is, e := pattern.Same(a, b)
	list := []outcome{{"Same", e, !is}, ofPattern("Over")(pattern.Over(a, b))}
	dx, dy, found, e := pattern.Align(a, b)
	return append(list, outcome{"Align", e, dx == 0 && dy == 0 && !found})
}

func TestValidate(t *testing.T) {
	for _, p := range slices.Concat(cases(), smalls()) {
		if e := pattern.Validate(p); e != api.OK {
			t.Errorf("P5.1: Validate(%v) is %v", p, e)
		}
	}
	for _, x := range invalids() {
		if e := pattern.Validate(x.p); e != x.e {
			t.Errorf("P5.1: Validate(%v) is %v, not %v", x.p, e, x.e)
		}
	}
}

// R2, R3: the errors of Validate come first, and with them all results are zero values.
func TestInvalidPatterns(t *testing.T) {
	right := []int{7, 6, 5, 4, 3, 2, 1, 0}
	for _, x := range invalids() {
		list := slices.Concat(outcomes(x.p, 0, 1, 1, right), outcomes(x.p, api.MaxPlace+1, -1, 0, nil), outcomesOfTwo(x.p, chess()), outcomesOfTwo(chess(), x.p))
		for _, y := range invalids() {
			list = append(list, outcomesOfTwo(x.p, y.p)...)
		}
		for _, o := range list {
			if o.e != x.e || !o.zero {
				t.Errorf("R2, R3: %s(%v) is %v, not %v", o.name, x.p, o.e, x.e)
			}
		}
	}
	for _, o := range outcomes(chess(), 1, 1, 1, right) {
		if o.e != api.OK {
			t.Errorf("P5.1: %s is %v", o.name, o.e)
		}
	}
	// Both are invalid: the first one decides.
	for _, o := range outcomesOfTwo(zeros(73, 0, 2, 146), grid(1, 0, 1, 8)) {
		if o.e != api.ErrLarge || !o.zero {
			t.Errorf("R2: %s is %v", o.name, o.e)
		}
	}
	for _, o := range outcomesOfTwo(grid(1, 0, 1, 8), zeros(73, 0, 2, 146)) {
		if o.e != api.ErrArg || !o.zero {
			t.Errorf("R2: %s is %v", o.name, o.e)
		}
	}
}

func TestPlaces(t *testing.T) {
	list := []int{api.MaxPlace + 1, -api.MaxPlace - 1, math.MaxInt, math.MinInt}
	for _, far := range list {
		for _, v := range [][2]int{{far, 0}, {0, far}, {far, far}, {far, -api.MaxPlace}} {
			c, e := pattern.At(wall(), v[0], v[1])
			is, pe := pattern.IsPeriod(wall(), v[0], v[1])
			x, y, he := pattern.Home(wall(), v[0], v[1])
			p, se := pattern.Shift(wall(), v[0], v[1])
			if c != 0 || e != api.ErrArg || is || pe != api.ErrArg || x != 0 || y != 0 || he != api.ErrArg || !isZero(p) || se != api.ErrArg {
				t.Errorf("P5.1 to P5.3: %v: %d %v, %v %v, %d %d %v, %v %v", v, c, e, is, pe, x, y, he, p, se)
			}
		}
	}
}

// vectors returns some near 0 and some at the limits.
func vectors(random *rand.Rand, count int) [][2]int {
	list := [][2]int{{0, 0}, {api.MaxPlace, api.MaxPlace}, {-api.MaxPlace, api.MaxPlace}, {api.MaxPlace, -api.MaxPlace}, {-api.MaxPlace, -api.MaxPlace}, {0, -1}, {-1, 0}}
	for range count {
		list = append(list, [2]int{random.Intn(61) - 30, random.Intn(61) - 30}, [2]int{random.Intn(2*api.MaxPlace+1) - api.MaxPlace, random.Intn(2*api.MaxPlace+1) - api.MaxPlace})
	}
	return list
}

func TestAt(t *testing.T) {
	random := rand.New(rand.NewSource(1))
	for _, p := range slices.Concat(cases(), smalls()) {
		for _, v := range vectors(random, 40) {
			if c, e := pattern.At(p, v[0], v[1]); c != colorsOf(p)(v[0], v[1]) || e != api.OK {
				t.Fatalf("P5.1: At(%v, %d, %d) is %d, %v", p, v[0], v[1], c, e)
			}
		}
	}
	for _, x := range []struct{ x, y, want int }{{0, 0, 0}, {2, 0, 2}, {3, 0, 0}, {-1, 0, 2}, {0, 1, 2}, {1, 1, 0}, {0, 2, 1}, {0, -1, 1}, {0, -2, 2}, {-1, -1, 0}} {
		if c, e := pattern.At(grid(3, 1, 1, 0, 1, 2), x.x, x.y); c != x.want || e != api.OK {
			t.Errorf("P5.1: At(.., %d, %d) is %d, %v", x.x, x.y, c, e)
		}
	}
}

func TestLeast(t *testing.T) {
	smaller := 0
	for _, p := range slices.Concat(cases(), smalls()) {
		want := least(p)
		got, e := pattern.Least(p)
		if !same(got, want) || e != api.OK {
			t.Fatalf("P5.2: Least(%v) is %v, %v, not %v", p, got, e, want)
		}
		if again, e := pattern.Least(got); !same(again, got) || e != api.OK {
			t.Fatalf("P5.2: Least(%v) is %v, %v", got, again, e)
		}
		if len(got.Cells) < len(p.Cells) {
			smaller++
		}
	}
	if smaller < 100 {
		t.Error("few of the cases have a smaller repeat:", smaller)
	}
	for _, x := range []struct{ p, want api.Pattern }{
		{chess(), grid(2, 1, 1, 0, 1)},
		{wall(), wall()},
		{zeros(12, 5, 12, 144), grid(1, 0, 1, 0)},
		{grid(6, 4, 1, 0, 1, 2, 0, 1, 2), grid(3, 1, 1, 0, 1, 2)},
		{grid(1, 0, 4, 3, 4, 3, 4), grid(1, 0, 2, 3, 4)},
		{grid(4, 3, 1, 0, 0, 1, 1), grid(4, 3, 1, 0, 0, 1, 1)},
		{grid(2, 0, 4, 0, 1, 1, 0, 0, 1, 1, 0), grid(2, 1, 1, 0, 1)},
		{grid(3, 0, 3, 0, 1, 2, 2, 0, 1, 1, 2, 0), grid(3, 1, 1, 0, 1, 2)},
	} {
		if got, e := pattern.Least(x.p); !same(got, x.want) || e != api.OK {
			t.Errorf("P5.2: Least(%v) is %v, %v, not %v", x.p, got, e, x.want)
		}
	}
}

func TestSame(t *testing.T) {
	list := slices.Concat(cases()[:60], smalls())
	var leasts []api.Pattern
	for _, p := range list {
		leasts = append(leasts, least(p))
	}
	equal := 0
	for i, a := range list {
		for j, b := range list {
			want := same(leasts[i], leasts[j])
			if is, e := pattern.Same(a, b); is != want || e != api.OK {
				t.Fatalf("P5.2: Same(%v, %v) is %v, %v", a, b, is, e)
			}
			if want {
				equal++
			}
		}
	}
	if equal < 500 {
		t.Error("few of the cases are the same:", equal)
	}
	random := rand.New(rand.NewSource(2))
	for range 500 {
		a := randomPattern(random, 24, 2)
		b := spread(random, a)
		if is, e := pattern.Same(a, b); !is || e != api.OK {
			t.Fatalf("P5.2: Same(%v, %v) is %v, %v", a, b, is, e)
		}
		b.Cells[random.Intn(len(b.Cells))] = 2
		if is, e := pattern.Same(a, b); is || e != api.OK {
			t.Fatalf("P5.2: Same(%v, %v) is %v, %v", a, b, is, e)
		}
	}
}

func TestIsPeriod(t *testing.T) {
	random := rand.New(rand.NewSource(3))
	count := map[bool]int{}
	for _, p := range slices.Concat(cases(), smalls()) {
		list := vectors(random, 20)
		for range 20 {
			// A sum of the known periods, and a vector beside it.
			m, n := random.Intn(201)-100, random.Intn(201)-100
			list = append(list, [2]int{m*p.A + n*p.B, n * p.C}, [2]int{m*p.A + n*p.B + 1 - m&2, n * p.C})
		}
		for _, v := range list {
			want := repeats(colorsOf(p), p.A, p.C, v[0], v[1])
			if is, e := pattern.IsPeriod(p, v[0], v[1]); is != want || e != api.OK {
				t.Fatalf("P5.2: IsPeriod(%v, %d, %d) is %v, %v", p, v[0], v[1], is, e)
			}
			count[want]++
		}
	}
	if count[true] < 1000 || count[false] < 1000 {
		t.Error("the cases do not cover the answers:", count)
	}
}

func TestHome(t *testing.T) {
	random := rand.New(rand.NewSource(4))
	for _, p := range slices.Concat(cases(), smalls()) {
		l := least(p)
		for _, v := range vectors(random, 4) {
			var homes [][2]int
			for y := range l.C {
				for x := range l.A {
					if repeats(colorsOf(l), l.A, l.C, v[0]-x, v[1]-y) {
						homes = append(homes, [2]int{x, y})
					}
				}
			}
			x, y, e := pattern.Home(p, v[0], v[1])
			if len(homes) != 1 || homes[0] != [2]int{x, y} || e != api.OK {
				t.Fatalf("P5.2: Home(%v, %d, %d) is %d, %d, %v, not %v", p, v[0], v[1], x, y, e, homes)
			}
		}
	}
	// The least repeat counts, not the given one.
	if x, y, e := pattern.Home(chess(), 3, 1); x != 0 || y != 0 || e != api.OK {
		t.Error("P5.2: Home of the chess board is", x, y, e)
	}
}

// R5: a result is new memory, and no argument is changed.
func TestNewMemory(t *testing.T) {
	table := []int{0, 1, 2, 3, 4, 5, 6, 7}
	for _, p := range []api.Pattern{grid(2, 1, 1, 0, 1), wall(), chess(), grid(1, 0, 1, 3)} {
		given, other := copyOf(p), grid(1, 0, 1, 0)
		var results []api.Pattern
		keep := func(out api.Pattern, e api.Errno) {
			if e != api.OK {
				t.Error("R5:", p, e)
			}
			results = append(results, out)
		}
		keep(pattern.Least(p))
		keep(pattern.Shift(p, 0, 0))
		keep(pattern.Turn(p))
		keep(pattern.Mirror(p))
		keep(pattern.Recolor(p, table))
		keep(pattern.Over(p, other))
		keep(pattern.Over(other, p))
		keep(pattern.Swell(p, 1))
		outcomes(p, 3, 1, 1, table)
		outcomesOfTwo(p, p)
		for _, out := range results {
			for i := range out.Cells {
				out.Cells[i] = 9
			}
		}
		if !same(p, given) || !same(other, grid(1, 0, 1, 0)) || !slices.Equal(table, []int{0, 1, 2, 3, 4, 5, 6, 7}) {
			t.Errorf("R5: %v is now %v; %v %v", given, p, other, table)
		}
	}
}
