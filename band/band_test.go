package band_test

import (
	"math"
	"math/rand"
	"slices"
	"testing"

	"linoleum/api"
	"linoleum/band"
)

// run is a run of the shade 1.
func run(length, thick, flaw int) api.Run {
	return api.Run{Length: length, Mark: api.Mark{Thick: thick, Shade: 1, Flaw: flaw}}
}

// example is the band of the chapter's examples.
func example() []api.Run {
	return []api.Run{run(100, 20, 0), run(50, 20, 0), run(30, 25, 0)}
}

// stripes has runs of the length 1 with the thicknesses 1 and 2 by turns: it is normal.
func stripes(runs int) []api.Run {
	b := make([]api.Run, runs)
	for i := range b {
		b[i] = run(1, 1+i%2, 0)
	}
	return b
}

// spell returns the mark of each place of a band: the other way to have bands, against which the package is tested.
func spell(b []api.Run) []api.Mark {
	list := []api.Mark{}
	for _, r := range b {
		for range r.Length {
			list = append(list, r.Mark)
		}
	}
	return list
}

// runs returns the normal band with these marks.
func runs(marks []api.Mark) []api.Run {
	var b []api.Run
	for i, m := range marks {
		if i == 0 || m != marks[i-1] {
			b = append(b, api.Run{Mark: m})
		}
		b[len(b)-1].Length++
	}
	return b
}

// bands returns short bands of few marks, so that neighbors, spans and pieces often have the same ones.
func bands(seed int64, count int) [][]api.Run {
	random := rand.New(rand.NewSource(seed))
	kinds := []api.Mark{{Thick: 1}, {Thick: 2}, {Thick: 2, Shade: 1}, {Thick: 2, Flaw: api.Stain}}
	list := [][]api.Run{nil, {}, {run(1, 1, 0)}}
	for len(list) < count {
		few := kinds[:1+random.Intn(len(kinds))]
		b := make([]api.Run, random.Intn(7))
		for i := range b {
			b[i] = api.Run{Length: 1 + random.Intn(3), Mark: few[random.Intn(len(few))]}
		}
		list = append(list, b)
	}
	return list
}

// cases returns the bands by which functions of one band are tested place by place.
func cases() [][]api.Run {
	return append(bands(1, 150), example()[1:], stripes(api.MaxRuns))
}

type badBand struct {
	b []api.Run
	e api.Errno
}

func badBands() []badBand {
	good := run(5, 5, 5)
	long := make([]api.Run, api.MaxRuns)
	for i := range long {
		long[i] = run(api.MaxLength/api.MaxRuns, 1, 0)
	}
	long[3].Length++
	list := []badBand{
		{make([]api.Run, api.MaxRuns+1), api.ErrLarge},
		{stripes(api.MaxRuns + 1), api.ErrLarge},
		{slices.Repeat([]api.Run{run(1, 1, 0)}, api.MaxRuns+1), api.ErrLarge},
		{long, api.ErrLarge},
		{[]api.Run{run(api.MaxLength, 5, 5), run(1, 5, 5)}, api.ErrLarge},
		// ErrArg of any run comes before the length of the band, and after the number of runs.
		{[]api.Run{run(api.MaxLength, 5, 5), run(1, 5, 5), run(1, 5, 16)}, api.ErrArg},
		{[]api.Run{run(math.MaxInt, 5, 5), run(math.MaxInt, 5, 5), run(2, 5, 5)}, api.ErrArg},
		{slices.Repeat([]api.Run{run(0, 0, -1)}, api.MaxRuns+1), api.ErrLarge},
	}
	for _, r := range []api.Run{
		{}, run(0, 5, 5), run(-1, 5, 5), run(api.MaxLength+1, 5, 5), run(math.MinInt, 5, 5), run(math.MaxInt, 5, 5),
		run(5, 0, 5), run(5, -1, 5), run(5, api.MaxThick+1, 5), run(5, math.MinInt, 5), run(5, math.MaxInt, 5),
		run(5, 5, -1), run(5, 5, api.MaxFlaw+1), run(5, 5, math.MinInt), run(5, 5, math.MaxInt),
		{Length: 5, Mark: api.Mark{Thick: 5, Shade: -1}}, {Length: 5, Mark: api.Mark{Thick: 5, Shade: api.MaxShade + 1}},
		{Length: 5, Mark: api.Mark{Thick: 5, Shade: math.MinInt}}, {Length: 5, Mark: api.Mark{Thick: 5, Shade: math.MaxInt}},
	} {
		list = append(list, badBand{[]api.Run{r}, api.ErrArg}, badBand{[]api.Run{r, good}, api.ErrArg}, badBand{[]api.Run{good, good, r}, api.ErrArg})
	}
	return list
}

func TestValidate(t *testing.T) {
	most := api.Mark{Thick: api.MaxThick, Shade: api.MaxShade, Flaw: api.MaxFlaw}
	for _, b := range append(cases(),
		example(),
		[]api.Run{{Length: 1, Mark: api.Mark{Thick: 1}}},
		[]api.Run{{Length: api.MaxLength, Mark: most}},
		slices.Repeat([]api.Run{{Length: api.MaxLength / api.MaxRuns, Mark: most}}, api.MaxRuns),
	) {
		if e := band.Validate(b); e != api.OK {
			t.Errorf("P2.1: Validate(%v) is %v", b, e)
		}
	}
	for _, x := range badBands() {
		if e := band.Validate(x.b); e != x.e {
			t.Errorf("P2.1: Validate(%v) is %v, not %v", x.b, e, x.e)
		}
	}
}

// The errors of Validate come before those of the other arguments, which are wrong here as well.
func TestErrorsOfValidateFirst(t *testing.T) {
	for _, x := range badBands() {
		for name, call := range callsOfOneBand(x.b) {
			zero, e := call()
			if !zero || e != x.e {
				t.Errorf("R2, R3: %s of %v is %v, and all other results zero: %v", name, x.b, e, zero)
			}
		}
		for _, other := range []badBand{{example(), api.OK}, {nil, api.OK}, {[]api.Run{{}}, api.ErrArg}, {stripes(41), api.ErrLarge}} {
			for name, call := range callsOfTwoBands(x.b, other.b) {
				if zero, e := call(); !zero || e != x.e {
					t.Errorf("R2, R3: %s of %v, %v is %v, and all other results zero: %v", name, x.b, other.b, e, zero)
				}
			}
			want := x.e
			if other.e != api.OK {
				want = other.e
			}
			for name, call := range callsOfTwoBands(other.b, x.b) {
				if zero, e := call(); !zero || e != want {
					t.Errorf("R2, R3: %s of %v, %v is %v, and all other results zero: %v", name, other.b, x.b, e, zero)
				}
			}
		}
	}
}

// calls have names; each reports whether the results but for the error are zero values, and the error.
type calls map[string]func() (bool, api.Errno)

func callsOfOneBand(b []api.Run) calls {
	q := api.Query{Least: 0, Most: math.MaxInt, Shade: -1, Flaws: -1}
	ofBand := func(out []api.Run, e api.Errno) (bool, api.Errno) { return len(out) == 0, e }
	ofNumber := func(out int, e api.Errno) (bool, api.Errno) { return out == 0, e }
	return calls{
		"Normal":  func() (bool, api.Errno) { return ofBand(band.Normal(b)) },
		"Length":  func() (bool, api.Errno) { return ofNumber(band.Length(b)) },
		"At":      func() (bool, api.Errno) { m, e := band.At(b, 0); return m == api.Mark{}, e },
		"At -1":   func() (bool, api.Errno) { m, e := band.At(b, -1); return m == api.Mark{}, e },
		"Slice":   func() (bool, api.Errno) { return ofBand(band.Slice(b, 0, 1)) },
		"Slice -": func() (bool, api.Errno) { return ofBand(band.Slice(b, 2, 1)) },
		"Reverse": func() (bool, api.Errno) { return ofBand(band.Reverse(b)) },
		"Flaw":    func() (bool, api.Errno) { return ofBand(band.Flaw(b, 0, 1, 1)) },
		"Flaw -":  func() (bool, api.Errno) { return ofBand(band.Flaw(b, -1, 1, 16)) },
		"Press":   func() (bool, api.Errno) { return ofBand(band.Press(b, 0, 1, 1)) },
		"Press -": func() (bool, api.Errno) { return ofBand(band.Press(b, 1, 0, 0)) },
		"Where":   func() (bool, api.Errno) { l, e := band.Where(b, q); return len(l) == 0, e },
		"Count":   func() (bool, api.Errno) { return ofNumber(band.Count(b, q)) },
		"Volume":  func() (bool, api.Errno) { return ofNumber(band.Volume(b)) },
		"Places":  func() (bool, api.Errno) { l, e := band.Places(b); return len(l) == 0, e },
	}
}

func callsOfTwoBands(a, b []api.Run) calls {
	return calls{
		"Same":   func() (bool, api.Errno) { is, e := band.Same(a, b); return !is, e },
		"Join":   func() (bool, api.Errno) { out, e := band.Join(a, b); return len(out) == 0, e },
		"Over":   func() (bool, api.Errno) { out, e := band.Over(a, 0, b); return len(out) == 0, e },
		"Over -": func() (bool, api.Errno) { out, e := band.Over(a, -1, b); return len(out) == 0, e },
		"Agree":  func() (bool, api.Errno) { n, e := band.Agree(a, b); return n == 0, e },
		"Find":   func() (bool, api.Errno) { p, found, e := band.Find(a, b); return p == 0 && !found, e },
	}
}

func TestNormalAndLength(t *testing.T) {
	for _, b := range cases() {
		if got, e := band.Normal(b); !slices.Equal(got, runs(spell(b))) || e != api.OK {
			t.Errorf("P2.2: Normal(%v) is %v, %v", b, got, e)
		}
		if got, e := band.Length(b); got != len(spell(b)) || e != api.OK {
			t.Errorf("P2.2: Length(%v) is %v, %v", b, got, e)
		}
	}
	if got, e := band.Normal(example()); !slices.Equal(got, []api.Run{run(150, 20, 0), run(30, 25, 0)}) || e != api.OK {
		t.Errorf("P2.2: chapter 2, example 1: Normal is %v, %v", got, e)
	}
	for _, other := range []api.Mark{{Thick: 8, Shade: 3, Flaw: 4}, {Thick: 7, Shade: 4, Flaw: 4}, {Thick: 7, Shade: 3, Flaw: 5}} {
		b := []api.Run{{Length: 1, Mark: api.Mark{Thick: 7, Shade: 3, Flaw: 4}}, {Length: 1, Mark: other}}
		if got, e := band.Normal(b); !slices.Equal(got, b) || e != api.OK {
			t.Errorf("P2.2: Normal(%v) is %v, %v", b, got, e)
		}
	}
	full := slices.Repeat([]api.Run{run(api.MaxLength/api.MaxRuns, 1, 0)}, api.MaxRuns)
	if got, e := band.Normal(full); !slices.Equal(got, []api.Run{run(api.MaxLength, 1, 0)}) || e != api.OK {
		t.Errorf("P2.2: Normal of the longest band is %v, %v", got, e)
	}
}

func TestAt(t *testing.T) {
	for _, b := range cases() {
		marks := spell(b)
		for place, want := range marks {
			if got, e := band.At(b, place); got != want || e != api.OK {
				t.Errorf("P2.2: At(%v, %d) is %v, %v", b, place, got, e)
			}
		}
		for _, place := range []int{-1, len(marks), len(marks) + 1, math.MinInt, math.MaxInt} {
			if got, e := band.At(b, place); got != (api.Mark{}) || e != api.ErrNone {
				t.Errorf("P2.2: At(%v, %d) is %v, %v", b, place, got, e)
			}
		}
	}
}

// Both results of Same occur for many pairs: marks are few and lengths short.
func TestSame(t *testing.T) {
	for _, a := range bands(2, 150) {
		for _, b := range append(bands(3, 150), a, runs(spell(a))) {
			if got, e := band.Same(a, b); got != slices.Equal(spell(a), spell(b)) || e != api.OK {
				t.Errorf("P2.2: Same(%v, %v) is %v, %v", a, b, got, e)
			}
		}
	}
}
