package lot_test

import (
	"math"
	"math/rand"
	"reflect"
	"slices"
	"testing"

	"linoleum/api"
	"linoleum/lot"
)

func rat(n, d int) api.Rat { return api.Rat{Num: n, Den: d} }

func part(l, m int) api.Part { return api.Part{Lot: l, Mass: m} }

func made(kind, mass int, parts ...api.Part) api.Lot {
	return api.Lot{Kind: kind, Mass: mass, Parts: parts}
}

// example is the genealogy of the chapter's examples.
func example() []api.Lot {
	return []api.Lot{
		made(api.Oil, 100), made(api.Oil, 100), made(api.Linoxyn, 110, part(0, 60), part(1, 40)),
		made(api.Rosin, 10), made(api.Cement, 50, part(2, 50), part(3, 10)),
	}
}

// copyOf is a deep copy.
func copyOf(l []api.Lot) []api.Lot {
	out := slices.Clone(l)
	for i := range out {
		out[i].Parts = slices.Clone(out[i].Parts)
	}
	return out
}

// same compares genealogies; a nil slice and an empty one are the same (R4).
func same(a, b []api.Lot) bool {
	return slices.EqualFunc(a, b, func(x, y api.Lot) bool {
		return x.Kind == y.Kind && x.Mass == y.Mass && slices.Equal(x.Parts, y.Parts)
	})
}

// genealogies returns valid ones of up to size lots, whose parts are at most most each.
func genealogies(seed int64, count, size, most int) [][]api.Lot {
	random := rand.New(rand.NewSource(seed))
	list := [][]api.Lot{nil, {}}
	for len(list) < count {
		list = append(list, genealogy(random, 1+random.Intn(size), most))
	}
	return list
}

func genealogy(random *rand.Rand, size, most int) []api.Lot {
	var l []api.Lot
	var rest []int
	for len(l) < size {
		x := api.Lot{Kind: random.Intn(5), Mass: 1 + random.Intn(min(50*most, api.MaxMass))}
		if random.Intn(4) > 0 {
			x.Parts = parts(random, rest, most)
		}
		takes, oil := 0, false
		for _, p := range x.Parts {
			takes += p.Mass
			rest[p.Lot] -= p.Mass
			oil = oil || l[p.Lot].Kind == api.Oil
		}
		if takes > 0 {
			x.Kind = random.Intn(api.MaxKinds)
			if x.Kind != api.Linoxyn || !oil {
				x.Mass = min(1+takes-random.Intn(1+takes/4), takes, api.MaxMass)
			}
		}
		l = append(l, x)
		rest = append(rest, x.Mass)
	}
	return l
}

// parts takes from some of the lots that have something left.
func parts(random *rand.Rand, rest []int, most int) []api.Part {
	var list []api.Part
	for _, i := range random.Perm(len(rest)) {
		if rest[i] > 0 && len(list) < api.MaxParts && random.Intn(3) > 0 {
			list = append(list, part(i, 1+random.Intn(min(rest[i], most))))
		}
	}
	return list
}

// cases returns the genealogies with which every function is compared to its promise, word by word.
func cases() [][]api.Lot {
	list := [][]api.Lot{example(), ladder(), dilution(1), dilution(99999), halves()}
	list = append(list, genealogies(1, 150, 8, 5)...)
	list = append(list, genealogies(2, 100, 12, 300)...)
	return append(list, genealogies(3, 40, api.MaxLots, 6000)...)
}

// ladder is full: each lot takes one unit of each of the six before it.
func ladder() []api.Lot {
	l := []api.Lot{made(api.Oil, api.MaxMass)}
	for i := 1; i < api.MaxLots; i++ {
		x := made(api.Linoxyn, api.MaxMass)
		for p := max(0, i-api.MaxParts); p < i; p++ {
			x.Parts = append(x.Parts, part(p, 1))
		}
		if i > api.MaxParts {
			// No oil is among the parts: it takes nothing from the air.
			x.Mass = api.MaxParts
		}
		l = append(l, x)
	}
	return l
}

// dilution is full: each lot takes some units of the one before it and one of the lot 0, so that shares have hundreds of digits.
func dilution(mass int) []api.Lot {
	l := []api.Lot{made(api.Rosin, api.MaxMass), made(api.Gum, api.MaxMass)}
	for i := 2; i < api.MaxLots; i++ {
		l = append(l, made(api.Pigment, mass+1, part(i-1, mass), part(0, 1)))
	}
	return l
}

// halves is full: what is taken are powers of 2 and of 3, and yet the rosins are a half each in the end.
func halves() []api.Lot {
	l := []api.Lot{made(api.Rosin, api.MaxMass), made(api.Rosin, api.MaxMass)}
	for i := 2; i < api.MaxLots-2; i += 2 {
		l = append(l, made(api.Cement, 3000, part(i-2, 1999), part(i-1, 1001)), made(api.Cement, 3000, part(i-2, 1001), part(i-1, 1999)))
	}
	n := len(l)
	return append(l, made(api.Mass, 2, part(n-2, 1), part(n-1, 1)), made(api.Mass, 1, part(n, 1)))
}

type badGenealogy struct {
	l []api.Lot
	e api.Errno
}

// after is a genealogy of one oil of 9, followed by others.
func after(lots ...api.Lot) []api.Lot {
	return append([]api.Lot{made(api.Oil, 9)}, lots...)
}

func oils(n int) []api.Lot {
	l := make([]api.Lot, n)
	for i := range l {
		l[i] = made(api.Oil, 1)
	}
	return l
}

func badGenealogies() []badGenealogy {
	return []badGenealogy{
		{oils(api.MaxLots + 1), api.ErrLarge},
		{make([]api.Lot, api.MaxLots+1), api.ErrLarge},
		{[]api.Lot{{}}, api.ErrArg},
		{[]api.Lot{made(-1, 1)}, api.ErrArg},
		{[]api.Lot{made(api.MaxKinds, 1)}, api.ErrArg},
		{[]api.Lot{made(math.MinInt, 1)}, api.ErrArg},
		{[]api.Lot{made(api.Oil, 0)}, api.ErrArg},
		{[]api.Lot{made(api.Oil, -1)}, api.ErrArg},
		{[]api.Lot{made(api.Oil, api.MaxMass+1)}, api.ErrArg},
		{[]api.Lot{made(api.Oil, math.MaxInt)}, api.ErrArg},
		{after(made(api.Gum, 1, make([]api.Part, api.MaxParts+1)...)), api.ErrLarge},
		{append(oils(7), made(api.Gum, 1, part(0, 1), part(1, 1), part(2, 1), part(3, 1), part(4, 1), part(5, 1), part(6, 1))), api.ErrLarge},
		{[]api.Lot{made(api.Gum, 1, part(0, 1))}, api.ErrArg},
		{after(made(api.Gum, 1, part(1, 1))), api.ErrArg},
		{after(made(api.Gum, 1, part(2, 1)), made(api.Oil, 9)), api.ErrArg},
		{after(made(api.Gum, 1, part(-1, 1))), api.ErrArg},
		{after(made(api.Gum, 1, part(math.MinInt, 1))), api.ErrArg},
		{after(made(api.Gum, 1, part(math.MaxInt, 1))), api.ErrArg},
		{after(made(api.Gum, 1, part(0, 0))), api.ErrArg},
		{after(made(api.Gum, 1, part(0, -1))), api.ErrArg},
		{after(made(api.Gum, 1, part(0, api.MaxMass+1))), api.ErrArg},
		{after(made(api.Gum, 1, part(0, math.MaxInt))), api.ErrArg},
		{after(made(api.Gum, 1, part(0, 1), part(0, 1))), api.ErrArg},
		{after(made(api.Oil, 9), made(api.Gum, 1, part(0, 1), part(1, 1), part(0, 2))), api.ErrArg},
		{after(made(api.Gum, 2, part(0, 1))), api.ErrRule},
		{after(made(api.Cement, 9, part(0, 8))), api.ErrRule},
		{after(made(api.Oil, 9, part(0, 8))), api.ErrRule},
		{[]api.Lot{made(api.Rosin, 9), made(api.Linoxyn, 9, part(0, 8))}, api.ErrRule},
		{after(made(api.Linoxyn, 9, part(0, 9)), made(api.Linoxyn, 9, part(1, 8))), api.ErrRule},
		{[]api.Lot{made(api.Linoxyn, 1)}, api.ErrRule},
		{[]api.Lot{made(api.Cement, 1)}, api.ErrRule},
		{[]api.Lot{made(api.Mass, 1)}, api.ErrRule},
		{after(made(api.Gum, 1, part(0, 10))), api.ErrShort},
		{after(made(api.Gum, 1, part(0, 5)), made(api.Gum, 1, part(0, 5))), api.ErrShort},
		{after(made(api.Gum, 1, part(0, 4)), made(api.Gum, 1, part(0, 4), part(1, 1)), made(api.Gum, 1, part(0, 2))), api.ErrShort},
		{after(made(api.Gum, 4, part(0, 5)), made(api.Gum, 1, part(1, 5))), api.ErrShort},
		// Of several errors, the one named first: of the genealogy, of one lot, of the lots one by one.
		{append([]api.Lot{made(-1, 0)}, oils(api.MaxLots)...), api.ErrLarge},
		{after(made(-1, 1, make([]api.Part, api.MaxParts+1)...)), api.ErrArg},
		{after(made(api.Gum, 0, make([]api.Part, api.MaxParts+1)...)), api.ErrArg},
		{after(made(api.Gum, 9, part(5, 1))), api.ErrArg},
		{after(made(api.Gum, 9, part(0, 8)), made(-1, 1)), api.ErrRule},
		{after(made(api.Gum, 1, make([]api.Part, api.MaxParts+1)...), made(-1, 1)), api.ErrLarge},
		{after(made(-1, 1), made(api.Gum, 1, make([]api.Part, api.MaxParts+1)...)), api.ErrArg},
		{after(made(api.Gum, 1, part(0, 10)), made(api.Mass, 1)), api.ErrRule},
		{after(made(api.Gum, 1, part(0, 10)), made(api.Gum, 0)), api.ErrArg},
	}
}

func TestValidate(t *testing.T) {
	for _, l := range cases() {
		if e := lot.Validate(l); e != api.OK {
			t.Errorf("P3.1: Validate(%v) is %v", l, e)
		}
	}
	for _, l := range [][]api.Lot{
		oils(api.MaxLots),
		{made(api.Oil, 1), made(api.Rosin, 1), made(api.Gum, 1), made(api.Cork, 1), made(api.Pigment, api.MaxMass)},
		append(oils(6), made(api.Mass, 6, part(5, 1), part(0, 1), part(4, 1), part(1, 1), part(3, 1), part(2, 1))),
		after(made(api.Gum, 9, part(0, 9))),
		after(made(api.Gum, 1, part(0, 4)), made(api.Gum, 1, part(0, 5))),
		after(made(api.Linoxyn, api.MaxMass, part(0, 1))),
		after(made(api.Rosin, 9), made(api.Linoxyn, 50, part(1, 9), part(0, 1))),
		after(made(api.Oil, 5, part(0, 5)), made(api.Linoxyn, 50, part(1, 1))),
		after(made(api.Linoxyn, 50, part(0, 1)), made(api.Linoxyn, 60, part(1, 50), part(0, 1))),
		{made(api.Rosin, 9), made(api.Linoxyn, 8, part(0, 8))},
	} {
		if e := lot.Validate(l); e != api.OK {
			t.Errorf("P3.1: Validate(%v) is %v", l, e)
		}
	}
	for _, x := range badGenealogies() {
		if e := lot.Validate(x.l); e != x.e {
			t.Errorf("P3.1: Validate(%v) is %v, not %v", x.l, e, x.e)
		}
	}
}

// call returns the results of a call; the last one is its error.
type call struct {
	name string
	do   func(l []api.Lot) []any
}

func results(values ...any) []any { return values }

func numbered(name string, do func(l []api.Lot, lot int) (int, api.Errno), n int) call {
	return call{name, func(l []api.Lot) []any { return results(do(l, n)) }}
}

// calls has every function that returns an error, with numbers that may be those of lots.
func calls(a, b int, least api.Rat, keep []int, x api.Lot) []call {
	return []call{
		numbered("Left", lot.Left, a), numbered("Lost", lot.Lost, a),
		numbered("Received", lot.Received, a), numbered("Depth", lot.Depth, a),
		{"Add", func(l []api.Lot) []any { return results(lot.Add(l, x)) }},
		{"Share", func(l []api.Lot) []any { return results(lot.Share(l, a, b)) }},
		{"CompareShare", func(l []api.Lot) []any { return results(lot.CompareShare(l, a, b, least)) }},
		{"Paths", func(l []api.Lot) []any { return results(lot.Paths(l, a, b)) }},
		{"Sources", func(l []api.Lot) []any { return results(lot.Sources(l, b)) }},
		{"Descend", func(l []api.Lot) []any { return results(lot.Descend(l, a)) }},
		{"Recall", func(l []api.Lot) []any { return results(lot.Recall(l, a, least)) }},
		{"Kinds", func(l []api.Lot) []any { return results(lot.Kinds(l, b)) }},
		{"Only", func(l []api.Lot) []any { return results(lot.Only(l, keep)) }},
		{"Audit", func(l []api.Lot) []any { return results(lot.Audit(l)) }},
	}
}

// refused reports whether the results are zero values (R3; a slice may be empty) and the error e.
func refused(values []any, e api.Errno) bool {
	for _, v := range values[:len(values)-1] {
		value := reflect.ValueOf(v)
		if !value.IsZero() && !(value.Kind() == reflect.Slice && value.Len() == 0) {
			return false
		}
	}
	return values[len(values)-1] == e
}

func TestErrorsOfValidateFirst(t *testing.T) {
	bad := append(calls(-1, 99, rat(2, 4), []int{1, 1}, made(-1, 0)), calls(0, 0, rat(1, 2), []int{0}, made(api.Oil, 1))...)
	for _, x := range badGenealogies() {
		for _, c := range bad {
			if got := c.do(x.l); !refused(got, x.e) {
				t.Errorf("R2, R3: %s(%v) is %v, not %v", c.name, x.l, got, x.e)
			}
		}
	}
}

func TestNoSuchLot(t *testing.T) {
	ofAlone := []string{"Left", "Lost", "Depth", "Descend", "Recall"}
	inAlone := []string{"Sources", "Kinds"}
	both := []string{"Share", "CompareShare", "Paths"}
	check := func(l []api.Lot, of, in int, names ...string) {
		for _, c := range calls(of, in, rat(0, 0), nil, api.Lot{}) {
			if got := c.do(l); slices.Contains(names, c.name) && !refused(got, api.ErrNone) {
				t.Errorf("P3.2 to P3.6: %s with the lots %d and %d of %d is %v", c.name, of, in, len(l), got)
			}
		}
	}
	for _, l := range [][]api.Lot{nil, {}, example()} {
		for _, n := range []int{-1, len(l), len(l) + 1, math.MinInt, math.MaxInt} {
			check(l, n, n, slices.Concat(ofAlone, inAlone, both)...)
			check(l, n, 0, slices.Concat(ofAlone, both)...)
			check(l, 0, n, slices.Concat(inAlone, both)...)
		}
	}
}

func TestLeftAndLost(t *testing.T) {
	for _, l := range cases() {
		for i, x := range l {
			left, lost := x.Mass, 0
			for _, y := range l {
				for _, p := range y.Parts {
					if p.Lot == i {
						left -= p.Mass
					}
				}
			}
			for k, p := range x.Parts {
				if k == 0 {
					lost = -x.Mass
				}
				lost += p.Mass
			}
			if got, e := lot.Left(l, i); got != left || e != api.OK {
				t.Errorf("P3.2: Left(%v, %d) is %d, %v, not %d", l, i, got, e, left)
			}
			if got, e := lot.Lost(l, i); got != lost || e != api.OK {
				t.Errorf("P3.2: Lost(%v, %d) is %d, %v, not %d", l, i, got, e, lost)
			}
		}
	}
	for i, want := range [][2]int{{40, 0}, {60, 0}, {60, -10}, {0, 0}, {50, 10}} {
		left, le := lot.Left(example(), i)
		lost, e := lot.Lost(example(), i)
		if left != want[0] || lost != want[1] || le != api.OK || e != api.OK {
			t.Errorf("P3.2: of the lot %d of the example, %d is left and %d is lost", i, left, lost)
		}
	}
}

func TestReceived(t *testing.T) {
	for _, l := range cases() {
		for kind := range api.MaxKinds {
			want := 0
			for _, x := range l {
				if len(x.Parts) == 0 && x.Kind == kind {
					want += x.Mass
				}
			}
			if got, e := lot.Received(l, kind); got != want || e != api.OK {
				t.Errorf("P3.2: Received(%v, %d) is %d, %v, not %d", l, kind, got, e, want)
			}
		}
		for _, kind := range []int{-1, api.MaxKinds, math.MinInt, math.MaxInt} {
			if got, e := lot.Received(l, kind); got != 0 || e != api.ErrArg {
				t.Errorf("P3.2: Received(%v, %d) is %d, %v", l, kind, got, e)
			}
		}
	}
	if got, e := lot.Received(after(made(api.Oil, 5, part(0, 5))), api.Oil); got != 9 || e != api.OK {
		t.Errorf("P3.2: with an oil that is made, Received is %d, %v", got, e)
	}
}

func TestAdd(t *testing.T) {
	for _, l := range cases() {
		if len(l) == 0 {
			continue
		}
		last := len(l) - 1
		if got, e := lot.Add(l[:last], l[last]); !same(got, l) || e != api.OK {
			t.Errorf("P3.2: Add(%v, %v) is %v, %v", l[:last], l[last], got, e)
		}
	}
	for _, x := range badGenealogies() {
		last := len(x.l) - 1
		if e := lot.Validate(x.l[:last]); e != api.OK {
			continue
		}
		if got, e := lot.Add(x.l[:last], x.l[last]); len(got) != 0 || e != x.e {
			t.Errorf("P3.2: Add(%v, %v) is %v, %v, not %v", x.l[:last], x.l[last], got, e, x.e)
		}
	}
	if got, e := lot.Add(nil, made(api.Oil, 3)); !same(got, []api.Lot{made(api.Oil, 3)}) || e != api.OK {
		t.Errorf("P3.2: Add(nil, ..) is %v, %v", got, e)
	}
	// With the lot, another error comes first: but by R2, the genealogy is examined alone before.
	short := after(made(api.Gum, 1, part(0, 10)))
	if got, e := lot.Add(short, made(-1, 0)); len(got) != 0 || e != api.ErrShort {
		t.Errorf("P3.2, R2: Add(%v, ..) is %v, %v", short, got, e)
	}
}

func TestAudit(t *testing.T) {
	for _, l := range cases() {
		received, left, lost, air, e := lot.Audit(l)
		var want [4]int
		for i, x := range l {
			if len(x.Parts) == 0 {
				want[0] += x.Mass
			}
			rest, _ := lot.Left(l, i)
			want[1] += rest
			n, _ := lot.Lost(l, i)
			want[2] += max(n, 0)
			want[3] -= min(n, 0)
		}
		if got := [4]int{received, left, lost, air}; got != want || e != api.OK {
			t.Errorf("P3.8: Audit(%v) is %v, %v, not %v", l, got, e, want)
		}
		if received+air != left+lost {
			t.Errorf("P3.8, S1: Audit(%v) does not keep the mass: %d %d %d %d", l, received, left, lost, air)
		}
	}
	received, left, lost, air, e := lot.Audit(example())
	if received != 210 || left != 210 || lost != 10 || air != 10 || e != api.OK {
		t.Errorf("P3.8: Audit of the example is %d, %d, %d, %d, %v", received, left, lost, air, e)
	}
}

func TestArgumentsAreNotChanged(t *testing.T) {
	for _, l := range cases() {
		if len(l) == 0 {
			continue
		}
		before := copyOf(l)
		keep := []int{0, len(l) - 1}
		x := made(api.Gum, 1, part(0, 1))
		for _, c := range calls(0, len(l)-1, rat(1, 2), keep, x) {
			first := c.do(l)
			if second := c.do(l); !reflect.DeepEqual(first, second) {
				t.Errorf("R11: %s(%v) is %v, and then %v", c.name, l, first, second)
			}
			if !same(l, before) || keep[0] != 0 || keep[1] != len(l)-1 || !same([]api.Lot{x}, []api.Lot{made(api.Gum, 1, part(0, 1))}) {
				t.Fatalf("R5: %s has changed an argument: %v, %v, %v", c.name, l, keep, x)
			}
		}
	}
}

func TestResultsAreNewMemory(t *testing.T) {
	spoil := func(l []api.Lot) {
		for i := range l {
			l[i].Mass = -1
			for k := range l[i].Parts {
				l[i].Parts[k] = part(-1, -1)
			}
		}
	}
	// Room behind the end of the argument is not the result's to use.
	l := append(make([]api.Lot, 0, api.MaxLots), example()...)
	x := made(api.Mass, 10, part(4, 50))
	more, _ := lot.Add(l, x)
	spoil(more)
	if !same(l, example()) || !same([]api.Lot{x}, []api.Lot{made(api.Mass, 10, part(4, 50))}) || !same(l[:6][5:], []api.Lot{{}}) {
		t.Errorf("R5: the result of Add shares memory with its arguments: %v, %v", l[:6], x)
	}
	keep := []int{2, 4}
	kept, old, _ := lot.Only(l, keep)
	spoil(kept)
	for i := range old {
		old[i] = -1
	}
	if !same(l, example()) || !slices.Equal(keep, []int{2, 4}) {
		t.Errorf("R5: a result of Only shares memory with its arguments: %v, %v", l, keep)
	}
}
