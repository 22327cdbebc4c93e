package loft_test

import (
	"math"
	"math/rand"
	"slices"
	"testing"

	"linoleum/api"
	"linoleum/band"
	"linoleum/loft"
)

// exampleHanging is the hanging of the chapter's first example.
func exampleHanging() loft.Hanging {
	return loft.Hanging{Drop: 10, Shift: 5, Days: 2, Rate: 100, Fall: 10}
}

// hangings returns valid hangings: those at the limits and random ones, most of them with short drops.
func hangings(seed int64, count int) []loft.Hanging {
	random := rand.New(rand.NewSource(seed))
	list := []loft.Hanging{
		exampleHanging(), {Drop: 1}, {Drop: 1, Shift: 1}, {Drop: 1, Shift: 1, Days: 12, Rate: 100000, Fall: 100000},
		{Drop: 1000, Shift: 1999, Days: 12, Rate: 100000, Fall: 100}, {Drop: 1000, Days: 1, Rate: 999}, {Drop: 7, Days: 3, Rate: 20, Fall: 2},
	}
	for len(list) < count {
		h := loft.Hanging{Drop: 1 + random.Intn(12), Days: random.Intn(api.MaxStay + 1), Rate: random.Intn(200)}
		h.Shift = random.Intn(2 * h.Drop)
		h.Fall = random.Intn(h.Rate/h.Drop + 1)
		list = append(list, h)
	}
	return list
}

func badHangings() []loft.Hanging {
	h := exampleHanging()
	list := []loft.Hanging{{}}
	for _, n := range []int{0, -1, 1001, math.MinInt, math.MaxInt} {
		list = append(list, loft.Hanging{Drop: n, Shift: h.Shift, Days: h.Days, Rate: h.Rate})
	}
	for _, n := range []int{-1, 20, math.MinInt, math.MaxInt} {
		list = append(list, loft.Hanging{Drop: h.Drop, Shift: n, Days: h.Days, Rate: h.Rate})
	}
	for _, n := range []int{-1, api.MaxStay + 1, math.MinInt, math.MaxInt} {
		list = append(list, loft.Hanging{Drop: h.Drop, Shift: h.Shift, Days: n, Rate: h.Rate})
	}
	for _, n := range []int{-1, -10, 100001, math.MinInt, math.MaxInt} {
		list = append(list, loft.Hanging{Drop: h.Drop, Shift: h.Shift, Days: h.Days, Rate: n})
	}
	for _, n := range []int{-1, 11, math.MinInt, math.MaxInt} {
		list = append(list, loft.Hanging{Drop: h.Drop, Shift: h.Shift, Days: h.Days, Rate: h.Rate, Fall: n})
	}
	return append(list, loft.Hanging{Drop: 10, Rate: 99, Fall: 10}, loft.Hanging{Drop: 1000, Rate: 999, Fall: 1}, loft.Hanging{Drop: 1, Shift: 2})
}

// isHanging is P6.1 word by word; a fall is at most rate / drop if the foot of a drop does not ripen below 0.
func isHanging(h loft.Hanging) bool {
	in := func(n, least, most int) bool { return n >= least && n <= most }
	return in(h.Drop, 1, 1000) && in(h.Shift, 0, 2*h.Drop-1) && in(h.Days, 0, 12) && in(h.Rate, 0, 100000) &&
		in(h.Fall, 0, 100000) && h.Rate-h.Fall*h.Drop >= 0
}

func TestValidHanging(t *testing.T) {
	valid := 0
	for _, drop := range []int{math.MinInt, -1, 0, 1, 2, 7, 1000, 1001, math.MaxInt} {
		for _, shift := range []int{math.MinInt, -1, 0, 1, 2*drop - 1, 2 * drop, math.MaxInt} {
			for _, days := range []int{math.MinInt, -1, 0, 12, 13, math.MaxInt} {
				for _, rate := range []int{math.MinInt, -1, 0, 6, 7, 1000, 100000, 100001, math.MaxInt} {
					for _, fall := range []int{math.MinInt, -1, 0, 1, 2, 3, 100, 101, 14285, 14286, 100000, 100001, math.MaxInt} {
						h := loft.Hanging{Drop: drop, Shift: shift, Days: days, Rate: rate, Fall: fall}
						if got := loft.ValidHanging(h); got != isHanging(h) {
							t.Errorf("P6.1: ValidHanging(%v) is %v", h, got)
						}
						if isHanging(h) {
							valid++
						}
					}
				}
			}
		}
	}
	if valid < 100 {
		t.Error("few hangings were valid:", valid)
	}
	for _, h := range hangings(1, 200) {
		if !loft.ValidHanging(h) {
			t.Errorf("P6.1: ValidHanging(%v) is false", h)
		}
	}
	for _, h := range badHangings() {
		if loft.ValidHanging(h) {
			t.Errorf("P6.1: ValidHanging(%v) is true", h)
		}
	}
}

// polesBelow examines each place; there are poles from Shift on only.
func polesBelow(length int, h loft.Hanging) []int {
	var list []int
	for place := range length {
		if place >= h.Shift && (place-h.Shift)%(2*h.Drop) == 0 {
			list = append(list, place)
		}
	}
	return list
}

func TestPoles(t *testing.T) {
	for _, h := range hangings(2, 60) {
		for _, length := range []int{0, 1, 2, h.Shift, h.Shift + 1, h.Shift + 2*h.Drop, h.Shift + 2*h.Drop + 1, 100, 1999} {
			if got, e := loft.Poles(length, h); !slices.Equal(got, polesBelow(length, h)) || e != api.OK {
				t.Errorf("P6.1: Poles(%d, %v) is %v, %v", length, h, got, e)
			}
		}
		for _, length := range []int{-1, api.MaxLength + 1, math.MinInt, math.MaxInt} {
			if got, e := loft.Poles(length, h); len(got) != 0 || e != api.ErrArg {
				t.Errorf("P6.1: Poles(%d, %v) is %v, %v", length, h, got, e)
			}
		}
	}
	for _, h := range badHangings() {
		for _, length := range []int{0, 50, api.MaxLength, -1} {
			if got, e := loft.Poles(length, h); len(got) != 0 || e != api.ErrArg {
				t.Errorf("P6.1: Poles(%d, %v) is %v, %v", length, h, got, e)
			}
		}
	}
	for _, x := range []struct {
		length int
		h      loft.Hanging
		e      api.Errno
	}{
		{1999, loft.Hanging{Drop: 1}, api.OK}, {2000, loft.Hanging{Drop: 1}, api.OK}, {2001, loft.Hanging{Drop: 1}, api.ErrLarge},
		{2001, loft.Hanging{Drop: 1, Shift: 1}, api.OK}, {2002, loft.Hanging{Drop: 1, Shift: 1}, api.ErrLarge},
		{api.MaxLength, loft.Hanging{Drop: 500}, api.OK}, {api.MaxLength, loft.Hanging{Drop: 499}, api.ErrLarge},
		{api.MaxLength, loft.Hanging{Drop: 1}, api.ErrLarge}, {api.MaxLength + 1, loft.Hanging{Drop: 1}, api.ErrArg},
	} {
		var want []int
		if x.e == api.OK {
			want = polesBelow(x.length, x.h)
		}
		if got, e := loft.Poles(x.length, x.h); !slices.Equal(got, want) || e != x.e {
			t.Errorf("P6.1: Poles(%d, %v) has %d places, %v", x.length, x.h, len(got), e)
		}
	}
	if got, e := loft.Poles(50, exampleHanging()); !slices.Equal(got, []int{5, 25, 45}) || e != api.OK {
		t.Errorf("P6.1: chapter 6, example 1: Poles is %v, %v", got, e)
	}
}

// nearest is the distance to the nearest pole, also to one that is not on the band.
func nearest(h loft.Hanging, place int) int {
	step := 2 * h.Drop
	least := math.MaxInt
	for k := -2; k*step <= place+2*step; k++ {
		distance := place - (h.Shift + k*step)
		least = min(least, max(distance, -distance))
	}
	return least
}

func TestHeight(t *testing.T) {
	for _, h := range hangings(3, 60) {
		for _, place := range append(numbers(0, 60), 1998, 1999, 2000, 4321, 9999) {
			if got, e := loft.Height(h, place); got != nearest(h, place) || e != api.OK {
				t.Errorf("P6.1: Height(%v, %d) is %v, %v, not %v", h, place, got, e, nearest(h, place))
			}
		}
		for _, place := range []int{-1, api.MaxLength + 1, math.MinInt, math.MaxInt} {
			if got, e := loft.Height(h, place); got != 0 || e != api.ErrArg {
				t.Errorf("P6.1: Height(%v, %d) is %v, %v", h, place, got, e)
			}
		}
	}
	for _, h := range badHangings() {
		for _, place := range []int{0, 7, -1} {
			if got, e := loft.Height(h, place); got != 0 || e != api.ErrArg {
				t.Errorf("P6.1: Height(%v, %d) is %v, %v", h, place, got, e)
			}
		}
	}
	for place, want := range map[int]int{0: 5, 5: 0, 15: 10, 20: 5, api.MaxLength: 5} {
		if got, e := loft.Height(exampleHanging(), place); got != want || e != api.OK {
			t.Errorf("P6.1: chapter 6, example 1: Height of %d is %v, %v", place, got, e)
		}
	}
}

func numbers(from, to int) []int {
	var list []int
	for n := from; n < to; n++ {
		list = append(list, n)
	}
	return list
}

func ripenessAt(l []loft.Hanging, place int) int {
	sum := 0
	for _, h := range l {
		sum += h.Days * (h.Rate - h.Fall*nearest(h, place))
	}
	return sum
}

// lists returns lists of up to 8 hangings.
func lists(seed int64) [][]loft.Hanging {
	all := hangings(seed, 80)
	list := [][]loft.Hanging{nil, {}, {exampleHanging()}}
	for n := 1; n <= 8; n++ {
		list = append(list, all[n:2*n], all[20+n:20+2*n], all[40+n:40+2*n])
	}
	return list
}

func TestRipeness(t *testing.T) {
	for _, l := range lists(4) {
		for _, place := range append(numbers(0, 50), 4000, 9999) {
			if got, e := loft.Ripeness(l, place); got != ripenessAt(l, place) || e != api.OK {
				t.Errorf("P6.2: Ripeness(%v, %d) is %v, %v, not %v", l, place, got, e, ripenessAt(l, place))
			}
		}
		for _, place := range []int{-1, api.MaxLength + 1, math.MinInt, math.MaxInt} {
			if got, e := loft.Ripeness(l, place); got != 0 || e != api.ErrArg {
				t.Errorf("P6.2: Ripeness(%v, %d) is %v, %v", l, place, got, e)
			}
		}
	}
	if got, e := loft.Ripeness([]loft.Hanging{exampleHanging()}, api.MaxLength); got != 100 || e != api.OK {
		t.Errorf("P6.2: Ripeness of the last place is %v, %v", got, e)
	}
}

// Two hangings that are equal but for a Shift that differs by Drop give all places the same ripeness.
func TestRipenessShifted(t *testing.T) {
	for _, h := range hangings(5, 100) {
		other := h
		other.Shift = (h.Shift + h.Drop) % (2 * h.Drop)
		want, e := loft.Ripeness([]loft.Hanging{h, other}, 0)
		if e != api.OK {
			t.Fatal(e)
		}
		if least, most, e := loft.Range([]loft.Hanging{h, other}, 4000); least != want || most != want || e != api.OK {
			t.Errorf("P6.2: Range of %v and shifted by a drop is %v to %v, %v", h, least, most, e)
		}
	}
}

func TestRange(t *testing.T) {
	for _, l := range lists(6) {
		least, most := ripenessAt(l, 0), ripenessAt(l, 0)
		for length := 1; length <= 100; length++ {
			n := ripenessAt(l, length-1)
			least, most = min(least, n), max(most, n)
			if x, y, e := loft.Range(l, length); x != least || y != most || e != api.OK {
				t.Errorf("P6.2: Range(%v, %d) is %v to %v, %v, not %v to %v", l, length, x, y, e, least, most)
			}
		}
		for _, length := range []int{0, -1, 4001, math.MinInt, math.MaxInt} {
			if x, y, e := loft.Range(l, length); x != 0 || y != 0 || e != api.ErrArg {
				t.Errorf("P6.2: Range(%v, %d) is %v to %v, %v", l, length, x, y, e)
			}
		}
	}
	// The foot of a drop at the last place, and the pole behind it.
	long := loft.Hanging{Drop: 1000, Shift: 1000, Days: 12, Rate: 100000, Fall: 100}
	for length, want := range map[int]int{1: 0, 2: 1200, 1001: 1200000, 4000: 1200000} {
		if x, y, e := loft.Range([]loft.Hanging{long}, length); x != 0 || y != want || e != api.OK {
			t.Errorf("P6.2: Range(%v, %d) is %v to %v, %v", long, length, x, y, e)
		}
	}
}

func TestErrorsOfHangings(t *testing.T) {
	nine := slices.Repeat([]loft.Hanging{exampleHanging()}, 9)
	for _, x := range []struct {
		l []loft.Hanging
		e api.Errno
	}{
		{nine, api.ErrLarge}, {make([]loft.Hanging, 9), api.ErrLarge}, {make([]loft.Hanging, 8), api.ErrArg}, {append(nine[:7:7], loft.Hanging{}), api.ErrArg},
	} {
		for _, n := range []int{1, -1} {
			if got, e := loft.Ripeness(x.l, n); got != 0 || e != x.e {
				t.Errorf("P6.2: Ripeness(%v, %d) is %v, %v, not %v", x.l, n, got, e, x.e)
			}
			if least, most, e := loft.Range(x.l, n); least != 0 || most != 0 || e != x.e {
				t.Errorf("P6.2: Range(%v, %d) is %v to %v, %v, not %v", x.l, n, least, most, e, x.e)
			}
		}
	}
	for _, h := range badHangings() {
		for _, l := range [][]loft.Hanging{{h}, {exampleHanging(), h}, {h, exampleHanging()}} {
			if got, e := loft.Ripeness(l, 3); got != 0 || e != api.ErrArg {
				t.Errorf("P6.2: Ripeness(%v) is %v, %v", l, got, e)
			}
			if least, most, e := loft.Range(l, 3); least != 0 || most != 0 || e != api.ErrArg {
				t.Errorf("P6.2: Range(%v) is %v to %v, %v", l, least, most, e)
			}
		}
	}
}

// chalkedMarks returns the runs of a band with marks at the poles, found place by place.
func chalkedMarks(b []api.Run, h loft.Hanging) []api.Run {
	var out []api.Run
	place := 0
	for _, r := range b {
		for range r.Length {
			m := r.Mark
			if place >= h.Shift && nearest(h, place) == 0 {
				m.Flaw |= api.PoleMark
			}
			if last := len(out) - 1; last < 0 || out[last].Mark != m {
				out = append(out, api.Run{Mark: m})
			}
			out[len(out)-1].Length++
			place++
		}
	}
	return out
}

// bands returns short bands of few marks, some of which have the pole's flaw already.
func bands(seed int64, count int) [][]api.Run {
	random := rand.New(rand.NewSource(seed))
	kinds := []api.Mark{{Thick: 2}, {Thick: 2, Flaw: api.PoleMark}, {Thick: 2, Flaw: api.Stain}, {Thick: 3, Shade: 1, Flaw: api.MaxFlaw}}
	list := [][]api.Run{nil, {}}
	for len(list) < count {
		b := make([]api.Run, random.Intn(1+api.MaxRuns>>random.Intn(4)))
		few := 1 + random.Intn(len(kinds))
		for i := range b {
			b[i] = api.Run{Length: 1 + random.Intn(4), Mark: kinds[random.Intn(few)]}
		}
		list = append(list, b)
	}
	return list
}

func TestChalk(t *testing.T) {
	large, fits := 0, 0
	for i, h := range hangings(7, 100) {
		for _, b := range bands(int64(i), 100) {
			want, we := chalkedMarks(b, h), api.OK
			if len(want) > api.MaxRuns {
				want, we = nil, api.ErrLarge
				large++
			} else if len(want) > 1 {
				fits++
			}
			given := slices.Clone(b)
			if got, e := loft.Chalk(b, h); !slices.Equal(got, want) || e != we {
				t.Errorf("P6.3: Chalk(%v, %v) is %v, %v, not %v, %v", b, h, got, e, want, we)
			}
			if !slices.Equal(b, given) {
				t.Errorf("R5: Chalk changed %v to %v", given, b)
			}
		}
	}
	if large < 100 || fits < 1000 {
		t.Errorf("the cases do not cover the outcomes: %d too large, %d not", large, fits)
	}
}

func TestChalkLimits(t *testing.T) {
	plain, pole := api.Mark{Thick: 5}, api.Mark{Thick: 5, Flaw: api.PoleMark}
	one := func(length int, m api.Mark) []api.Run { return []api.Run{{Length: length, Mark: m}} }
	// With the first pole alone there would be 41 runs; all of them leave 3.
	joined := one(3, plain)
	for i := range 39 {
		joined = append(joined, api.Run{Length: 1, Mark: []api.Mark{pole, plain}[i%2]})
	}
	if _, e := band.Flaw(joined, 0, 1, api.PoleMark); e != api.ErrLarge {
		t.Error("the first pole leaves too few runs:", e)
	}
	for _, x := range []struct {
		b    []api.Run
		h    loft.Hanging
		want []api.Run
		e    api.Errno
	}{
		{joined, loft.Hanging{Drop: 1}, append(append(one(1, pole), one(1, plain)...), one(40, pole)...), api.OK},
		{one(2000, pole), loft.Hanging{Drop: 1}, one(2000, pole), api.OK},
		{one(2001, pole), loft.Hanging{Drop: 1}, nil, api.ErrLarge}, // 1001 poles
		{one(api.MaxLength, pole), loft.Hanging{Drop: 500}, one(api.MaxLength, pole), api.OK},
		{one(api.MaxLength, pole), loft.Hanging{Drop: 499}, nil, api.ErrLarge},
		{one(39, plain), loft.Hanging{Drop: 1}, chalkedMarks(one(39, plain), loft.Hanging{Drop: 1}), api.OK},
		{one(40, plain), loft.Hanging{Drop: 1}, chalkedMarks(one(40, plain), loft.Hanging{Drop: 1}), api.OK},
		{one(41, plain), loft.Hanging{Drop: 1}, nil, api.ErrLarge},
		{one(41, plain), loft.Hanging{Drop: 1, Shift: 1}, nil, api.ErrLarge},
		{one(9, plain), loft.Hanging{Drop: 5, Shift: 9}, one(9, plain), api.OK}, // no pole
		{append(one(9, plain), one(9, plain)...), loft.Hanging{Drop: 50, Shift: 99}, one(18, plain), api.OK},
		{nil, loft.Hanging{Drop: 1}, nil, api.OK},
	} {
		if got, e := loft.Chalk(x.b, x.h); !slices.Equal(got, x.want) || e != x.e {
			t.Errorf("P6.3: Chalk(%v, %v) is %v, %v, not %v, %v", x.b, x.h, got, e, x.want, x.e)
		}
	}
}

func TestChalkErrors(t *testing.T) {
	good := []api.Run{{Length: 5, Mark: api.Mark{Thick: 5}}}
	for _, h := range append(badHangings(), exampleHanging()) {
		for _, b := range [][]api.Run{
			{{}}, {good[0], {}}, make([]api.Run, api.MaxRuns+1), slices.Repeat(good, api.MaxRuns+1), slices.Repeat([]api.Run{{Length: api.MaxLength, Mark: good[0].Mark}}, 2),
		} {
			if got, e := loft.Chalk(b, h); len(got) != 0 || e != band.Validate(b) {
				t.Errorf("P6.3: Chalk(%v, %v) is %v, %v", b, h, got, e)
			}
		}
	}
	for _, h := range badHangings() {
		for _, b := range [][]api.Run{nil, good, {{Length: api.MaxLength, Mark: good[0].Mark}}} {
			if got, e := loft.Chalk(b, h); len(got) != 0 || e != api.ErrArg {
				t.Errorf("P6.3: Chalk(%v, %v) is %v, %v", b, h, got, e)
			}
		}
	}
}
