package band_test

import (
	"math"
	"slices"
	"testing"

	"linoleum/api"
	"linoleum/band"
)

// spans returns all spans of a band of this length, and with false some that are none.
func spans(length int) map[api.Span]bool {
	list := map[api.Span]bool{}
	for from := -2; from <= length+2; from++ {
		for to := -2; to <= length+2; to++ {
			list[api.Span{From: from, To: to}] = 0 <= from && from <= to && to <= length
		}
	}
	list[api.Span{From: 0, To: math.MaxInt}] = false
	list[api.Span{From: math.MinInt, To: 0}] = false
	list[api.Span{From: math.MinInt, To: math.MaxInt}] = false
	list[api.Span{From: math.MaxInt, To: math.MaxInt}] = false
	return list
}

// expect compares a band that was returned with the marks that it must have, or with the refusal of a call.
func expect(t *testing.T, call string, got []api.Run, e api.Errno, ok bool, marks []api.Mark) {
	t.Helper()
	if !ok {
		if len(got) != 0 || e != api.ErrArg {
			t.Errorf("%s is %v, %v, not refused", call, got, e)
		}
		return
	}
	if !slices.Equal(got, runs(marks)) || e != api.OK {
		t.Errorf("%s is %v, %v, not %v", call, got, e, runs(marks))
	}
}

func TestSlice(t *testing.T) {
	for _, b := range bands(4, 150) {
		marks := spell(b)
		for s, ok := range spans(len(marks)) {
			got, e := band.Slice(b, s.From, s.To)
			want := []api.Mark{}
			if ok {
				want = marks[s.From:s.To]
			}
			expect(t, "P2.3: Slice", got, e, ok, want)
		}
	}
}

func TestJoin(t *testing.T) {
	for _, a := range bands(5, 100) {
		for _, b := range bands(6, 100) {
			got, e := band.Join(a, b)
			expect(t, "P2.3: Join", got, e, true, append(spell(a), spell(b)...))
		}
	}
}

func TestJoinAtTheLimits(t *testing.T) {
	long := []api.Run{run(api.MaxLength-1, 2, 0)}
	for _, x := range []struct {
		a, b []api.Run
		runs int
		e    api.Errno
	}{
		{long, []api.Run{run(1, 2, 0)}, 1, api.OK},
		{long, []api.Run{run(2, 2, 0)}, 0, api.ErrLarge},
		{[]api.Run{run(1, 1, 0)}, long, 2, api.OK},
		{[]api.Run{run(2, 1, 0)}, long, 0, api.ErrLarge},
		{stripes(20), stripes(20), api.MaxRuns, api.OK},
		{stripes(20), stripes(21), 0, api.ErrLarge},
		{stripes(21), stripes(20), api.MaxRuns, api.OK},
		{stripes(40), stripes(40), 0, api.ErrLarge},
		// Only the runs of the normal form count.
		{slices.Repeat([]api.Run{run(3, 2, 0)}, 40), slices.Repeat([]api.Run{run(4, 2, 0)}, 40), 1, api.OK},
		{stripes(40), slices.Repeat([]api.Run{run(4, 2, 0)}, 40), 40, api.OK},
	} {
		got, e := band.Join(x.a, x.b)
		if e != x.e || len(got) != x.runs {
			t.Errorf("P2.1: Join(%v, %v) is %v, %v", x.a, x.b, got, e)
		}
	}
}

func TestReverse(t *testing.T) {
	for _, b := range cases() {
		got, e := band.Reverse(b)
		marks := spell(b)
		slices.Reverse(marks)
		expect(t, "P2.3: Reverse", got, e, true, marks)
	}
	got, e := band.Reverse([]api.Run{run(300, 20, 0), run(200, 25, 0)})
	if !slices.Equal(got, []api.Run{run(200, 25, 0), run(300, 20, 0)}) || e != api.OK {
		t.Errorf("P2.3: DOC.md, example 3: Reverse is %v, %v", got, e)
	}
}

// The consequence of chapter 2, and that a band is its own reverse's reverse.
func TestSlicesAndReversesGiveTheBand(t *testing.T) {
	for _, b := range bands(7, 150) {
		normal, _ := band.Normal(b)
		for k := range len(spell(b)) + 1 {
			left, le := band.Slice(b, 0, k)
			right, re := band.Slice(b, k, len(spell(b)))
			got, e := band.Join(left, right)
			if !slices.Equal(got, normal) || le != api.OK || re != api.OK || e != api.OK {
				t.Errorf("P2.3: the slices of %v at %d give %v, %v", b, k, got, e)
			}
		}
		back, _ := band.Reverse(b)
		if got, e := band.Reverse(back); !slices.Equal(got, normal) || e != api.OK {
			t.Errorf("P2.3: Reverse of Reverse of %v is %v, %v", b, got, e)
		}
	}
}

func TestFlaw(t *testing.T) {
	for _, b := range bands(8, 60) {
		for s, ok := range spans(len(spell(b))) {
			for _, flaw := range []int{0, 1, 2, 3, 8, 15, 16, -1, math.MinInt, math.MaxInt} {
				got, e := band.Flaw(b, s.From, s.To, flaw)
				right := ok && flaw >= 0 && flaw <= 15
				marks := spell(b)
				if right {
					for i := s.From; i < s.To; i++ {
						marks[i].Flaw |= flaw
					}
				}
				expect(t, "P2.4: Flaw", got, e, right, marks)
			}
		}
	}
	got, e := band.Flaw(example(), 140, 160, api.PoleMark)
	if !slices.Equal(got, []api.Run{run(140, 20, 0), run(10, 20, 1), run(10, 25, 1), run(20, 25, 0)}) || e != api.OK {
		t.Errorf("P2.4: chapter 2, example 2: Flaw is %v, %v", got, e)
	}
}

func TestPress(t *testing.T) {
	for _, b := range bands(9, 60) {
		for s, ok := range spans(len(spell(b))) {
			for _, thick := range []int{1, 2, 3, api.MaxThick, api.MaxThick + 1, 0, -1, math.MinInt, math.MaxInt} {
				got, e := band.Press(b, s.From, s.To, thick)
				right := ok && thick >= 1 && thick <= api.MaxThick
				marks := spell(b)
				if right {
					for i := s.From; i < s.To; i++ {
						marks[i].Thick = min(marks[i].Thick, thick)
					}
				}
				expect(t, "P2.4: Press", got, e, right, marks)
			}
		}
	}
}

func TestOver(t *testing.T) {
	for _, b := range bands(10, 60) {
		length := len(spell(b))
		for _, patch := range bands(11, 60) {
			marks := spell(patch)
			for from := -2; from <= length+2; from++ {
				got, e := band.Over(b, from, patch)
				ok := from >= 0 && from+len(marks) <= length
				want := spell(b)
				if ok {
					copy(want[from:], marks)
				}
				expect(t, "P2.4: Over", got, e, ok, want)
			}
			for _, from := range []int{math.MinInt, math.MaxInt, math.MaxInt - 1} {
				got, e := band.Over(b, from, patch)
				expect(t, "P2.4: Over", got, e, false, nil)
			}
		}
	}
}

// Changes inside a run divide it; only the runs of the normal form count, and ErrArg comes before ErrLarge.
func TestChangesAtTheLimits(t *testing.T) {
	full := stripes(api.MaxRuns)
	full[0].Length, full[39].Length = 9, 9 // the places 0 to 8 are 1 thick, 47 to 55 are 2 thick
	less := full[:api.MaxRuns-1]
	pair := []api.Run{run(1, 7, 0), run(1, 8, 0)}
	for k, x := range []struct {
		call func() ([]api.Run, api.Errno)
		runs int
		e    api.Errno
	}{
		{func() ([]api.Run, api.Errno) { return band.Flaw(full, 0, 56, 1) }, 40, api.OK},
		{func() ([]api.Run, api.Errno) { return band.Flaw(full, 0, 9, 1) }, 40, api.OK},
		{func() ([]api.Run, api.Errno) { return band.Flaw(full, 3, 3, 1) }, 40, api.OK},
		{func() ([]api.Run, api.Errno) { return band.Flaw(full, 3, 5, 0) }, 40, api.OK},
		{func() ([]api.Run, api.Errno) { return band.Flaw(full, 0, 5, 1) }, 0, api.ErrLarge},
		{func() ([]api.Run, api.Errno) { return band.Flaw(less, 0, 5, 1) }, 40, api.OK},
		{func() ([]api.Run, api.Errno) { return band.Flaw(less, 3, 5, 1) }, 0, api.ErrLarge},
		{func() ([]api.Run, api.Errno) { return band.Flaw(full, 0, 5, 16) }, 0, api.ErrArg},
		{func() ([]api.Run, api.Errno) { return band.Flaw(full, 0, 57, 1) }, 0, api.ErrArg},
		{func() ([]api.Run, api.Errno) { return band.Press(full, 48, 50, 1) }, 0, api.ErrLarge},
		{func() ([]api.Run, api.Errno) { return band.Press(full, 47, 50, 1) }, 40, api.OK},
		{func() ([]api.Run, api.Errno) { return band.Press(full, 48, 50, 2) }, 40, api.OK},
		{func() ([]api.Run, api.Errno) { return band.Press(full, 48, 50, 0) }, 0, api.ErrArg},
		{func() ([]api.Run, api.Errno) { return band.Press(full, 45, 52, 1) }, 38, api.OK},
		{func() ([]api.Run, api.Errno) { return band.Press(full, 0, 56, 1) }, 1, api.OK},
		{func() ([]api.Run, api.Errno) { return band.Over(full, 0, pair) }, 0, api.ErrLarge},
		{func() ([]api.Run, api.Errno) { return band.Over(full, 10, pair) }, 40, api.OK},
		{func() ([]api.Run, api.Errno) { return band.Over(full, 54, pair) }, 0, api.ErrLarge},
		{func() ([]api.Run, api.Errno) { return band.Over(full, 55, pair) }, 0, api.ErrArg},
		{func() ([]api.Run, api.Errno) { return band.Over(full, 8, full[1:39]) }, 40, api.OK},
		{func() ([]api.Run, api.Errno) { return band.Over(full, 3, nil) }, 40, api.OK},
		{func() ([]api.Run, api.Errno) {
			return band.Over([]api.Run{run(api.MaxLength, 9, 0)}, api.MaxLength-40, stripes(40))
		}, 0, api.ErrLarge},
		{func() ([]api.Run, api.Errno) {
			return band.Over([]api.Run{run(api.MaxLength, 9, 0)}, api.MaxLength-39, stripes(39))
		}, 40, api.OK},
	} {
		if got, e := x.call(); len(got) != x.runs || e != x.e {
			t.Errorf("P2.1, P2.4: call %d is %v, %v", k, got, e)
		}
	}
}

// A result is new memory, and no argument is changed, also where the result is the same band as the argument.
func TestMemory(t *testing.T) {
	normal := []api.Run{run(3, 2, 0), run(4, 5, 1), run(2, 2, 0)}
	for k, call := range []func(b, patch []api.Run) ([]api.Run, api.Errno){
		func(b, _ []api.Run) ([]api.Run, api.Errno) { return band.Normal(b) },
		func(b, _ []api.Run) ([]api.Run, api.Errno) { return band.Slice(b, 0, 9) },
		func(b, _ []api.Run) ([]api.Run, api.Errno) { return band.Join(b, nil) },
		func(b, _ []api.Run) ([]api.Run, api.Errno) { return band.Join(nil, b) },
		func(b, patch []api.Run) ([]api.Run, api.Errno) { return band.Join(b, patch) },
		func(b, _ []api.Run) ([]api.Run, api.Errno) { return band.Reverse(b) },
		func(b, _ []api.Run) ([]api.Run, api.Errno) { return band.Flaw(b, 0, 0, 1) },
		func(b, _ []api.Run) ([]api.Run, api.Errno) { return band.Flaw(b, 0, 9, 15) },
		func(b, _ []api.Run) ([]api.Run, api.Errno) { return band.Press(b, 0, 9, 1000) },
		func(b, _ []api.Run) ([]api.Run, api.Errno) { return band.Press(b, 2, 8, 1) },
		func(b, _ []api.Run) ([]api.Run, api.Errno) { return band.Over(b, 0, nil) },
		func(b, patch []api.Run) ([]api.Run, api.Errno) { return band.Over(b, 0, patch) },
	} {
		// With room after its end, an argument would take what is appended to it.
		b := append(make([]api.Run, 0, 20), normal...)
		patch := append(make([]api.Run, 0, 20), normal...)
		got, e := call(b, patch)
		if e != api.OK {
			t.Errorf("R5: call %d: %v", k, e)
		}
		for i := range got {
			got[i] = run(1, 1, 15)
		}
		if !slices.Equal(b, normal) || !slices.Equal(patch, normal) || b[:4][3] != (api.Run{}) || patch[:4][3] != (api.Run{}) {
			t.Errorf("R5: call %d has changed an argument, or its result shares memory with one: %v, %v", k, b, patch)
		}
	}
}
