package loft_test

import (
	"math"
	"math/rand"
	"slices"
	"testing"

	"linoleum/api"
	"linoleum/loft"
)

// areHeats is P6.4 word by word.
func areHeats(heats []int) bool {
	if len(heats) < 1 || len(heats) > 12 || heats[0] > 1 {
		return false
	}
	for i, heat := range heats {
		if heat < 0 || heat > 4 {
			return false
		}
		if i > 0 && (heat > heats[i-1]+1 || heat < heats[i-1]-1) {
			return false
		}
	}
	return true
}

func TestValidHeats(t *testing.T) {
	valid := 0
	var extend func(heats []int)
	extend = func(heats []int) {
		if got := loft.ValidHeats(heats); got != areHeats(heats) {
			t.Errorf("P6.4: ValidHeats(%v) is %v", heats, got)
		} else if got {
			valid++
		}
		if len(heats) < 5 {
			for heat := -1; heat <= 5; heat++ {
				extend(append(heats[:len(heats):len(heats)], heat))
			}
		}
	}
	extend(nil)
	if valid < 100 {
		t.Error("few heats were valid:", valid)
	}
	for _, x := range []struct {
		heats []int
		want  bool
	}{
		{[]int{}, false}, {make([]int, 12), true}, {make([]int, 13), false}, {make([]int, 1000), false},
		{[]int{1, 2, 3, 4, 3, 2, 1, 0, 1, 2, 3, 4}, true}, {[]int{1, 2, 3, 4, 4, 4, 4, 4, 4, 4, 4, 5}, false}, {[]int{1, 2, 3, 4, 4, 4, 4, 4, 4, 4, 4, 2}, false},
		{[]int{math.MaxInt}, false}, {[]int{math.MinInt}, false}, {[]int{0, math.MaxInt}, false}, {[]int{0, math.MinInt}, false}, {[]int{0, -1}, false},
	} {
		if got := loft.ValidHeats(x.heats); got != x.want {
			t.Errorf("P6.4: ValidHeats(%v) is %v", x.heats, got)
		}
	}
}

func TestWarmth(t *testing.T) {
	random := rand.New(rand.NewSource(1))
	for range 2000 {
		f := randomLofts(random, 1, api.MaxPoles)[0]
		heats := []int{random.Intn(2)}
		for len(heats) < 1+random.Intn(api.MaxStay) {
			last := heats[len(heats)-1]
			heats = append(heats, max(0, min(api.MaxHeat, last-1+random.Intn(3))))
		}
		want := 0
		for _, heat := range heats {
			want += f.Rates[heat]
		}
		if got, e := loft.Warmth(f, heats); got != want || e != api.OK {
			t.Errorf("P6.4: Warmth(%v, %v) is %v, %v, not %v", f, heats, got, e, want)
		}
	}
	if got, e := loft.Warmth(hot(), make([]int, api.MaxStay)); got != 108 || e != api.OK {
		t.Errorf("P6.4: the greatest Warmth is %v, %v", got, e)
	}
	if got, e := loft.Warmth(exampleLoft(1), []int{1, 2, 3}); got != 7 || e != api.OK {
		t.Errorf("P6.4: chapter 6, example 2: Warmth is %v, %v", got, e)
	}
	for _, heats := range [][]int{nil, {2}, {-1}, {1, 3}, {1, 2, 3, 4, 5}, {math.MaxInt}, make([]int, 13)} {
		if got, e := loft.Warmth(exampleLoft(1), heats); got != 0 || e != api.ErrArg {
			t.Errorf("P6.4: Warmth of the heats %v is %v, %v", heats, got, e)
		}
	}
}

// allHeats returns all valid heats, those of fewer days first, and in ascending order.
func allHeats() [][]int {
	list := [][]int{{0}, {1}}
	for i := 0; i < len(list); i++ {
		heats := list[i]
		if len(heats) == api.MaxStay {
			break
		}
		last := heats[len(heats)-1]
		for heat := max(0, last-1); heat <= min(api.MaxHeat, last+1); heat++ {
			list = append(list, append(heats[:len(heats):len(heats)], heat))
		}
	}
	return list
}

// firstOf returns the number of the first heats that have each warmth that goods may need; -1 if there are none.
func firstOf(f api.Loft, all [][]int) []int {
	first := slices.Repeat([]int{-1}, api.MaxRipe+1)
	for i, heats := range all {
		sum := 0
		for _, heat := range heats {
			sum += f.Rates[heat]
		}
		if sum <= api.MaxRipe && first[sum] < 0 {
			first[sum] = i
		}
	}
	return first
}

func TestProgram(t *testing.T) {
	random := rand.New(rand.NewSource(2))
	all := allHeats()
	found, none := 0, 0
	for _, f := range append(randomLofts(random, 40, api.MaxPoles),
		exampleLoft(5), hot(), cold(), withRates(1, 0, 0, 0, 0, 9), withRates(1, 0, 0, 0, 0, 1), withRates(1, 0, 3, 3, 6, 6), withRates(1, 7, 7, 7, 9, 9), withRates(1, 1, 1, 1, 1, 1),
	) {
		first := firstOf(f, all)
		for need := 1; need <= api.MaxRipe; need++ {
			best := -1
			for most := need; most <= api.MaxRipe; most++ {
				if first[most] >= 0 && (best < 0 || first[most] < best) {
					best = first[most]
				}
				var want []int
				if best >= 0 {
					want = all[best]
					found++
				} else {
					none++
				}
				if got, ok, e := loft.Program(f, need, most); !slices.Equal(got, want) || ok != (best >= 0) || e != api.OK {
					t.Errorf("P6.5: Program(%v, %d, %d) is %v, %v, %v, not %v", f, need, most, got, ok, e, want)
				}
			}
		}
	}
	if found < 1000 || none < 1000 {
		t.Errorf("the cases do not cover the outcomes: %d found, %d not", found, none)
	}
}

func TestProgramExamples(t *testing.T) {
	if got, ok, e := loft.Program(exampleLoft(1), 7, 10); !slices.Equal(got, []int{1, 2, 3}) || !ok || e != api.OK {
		t.Errorf("P6.5: chapter 6, example 2: Program is %v, %v, %v", got, ok, e)
	}
	for _, x := range [][2]int{{0, 5}, {-1, 5}, {5, 4}, {61, 61}, {5, 61}, {60, 61}, {0, 0}, {math.MinInt, 5}, {5, math.MaxInt}, {math.MaxInt, math.MaxInt}, {5, math.MinInt}} {
		if got, ok, e := loft.Program(exampleLoft(1), x[0], x[1]); len(got) != 0 || ok || e != api.ErrArg {
			t.Errorf("P6.5: Program(%v) is %v, %v, %v", x, got, ok, e)
		}
	}
}
