package floor_test

import (
	"math/bits"
	"slices"
	"testing"

	"linoleum/api"
	"linoleum/floor"
)

// search returns the smallest number of rolls with which Check accepts cuts, by trying all places for one strip after the other; false if there is none.
func search(j floor.Job, cuts []api.Cut) (int, bool) {
	if len(cuts) == len(j.Strips) {
		rolls := 0
		for _, c := range cuts {
			rolls |= 1 << c.Roll
		}
		return bits.OnesCount(uint(rolls)), true
	}
	least, found := 0, false
	for n, r := range j.Rolls {
		for at := range r.Length {
			more := append(slices.Clone(cuts), api.Cut{Strip: len(cuts), Roll: n, At: at})
			if e := check(j, more); e != api.OK && e != api.ErrShort {
				continue
			}
			if k, ok := search(j, more); ok && (!found || k < least) {
				least, found = k, true
			}
		}
	}
	return least, found
}

// orders returns the smallest number of rolls by trying, for each way to give the strips to the rolls, all orders on each roll: a strip begins at the first place that is right.
func orders(j floor.Job) (int, bool) {
	isRight := map[[2]int]bool{}
	for n := range j.Rolls {
		for set := range 1 << len(j.Strips) {
			isRight[[2]int{n, set}] = inSomeOrder(j, n, set, 0)
		}
	}
	least, found := 0, false
	sets := make([]int, len(j.Rolls))
	var give func(strip int)
	give = func(strip int) {
		if strip < len(j.Strips) {
			for n := range sets {
				sets[n] ^= 1 << strip
				give(strip + 1)
				sets[n] ^= 1 << strip
			}
			return
		}
		used := map[int]bool{}
		shades := map[int]bool{}
		for n, set := range sets {
			if !isRight[[2]int{n, set}] {
				return
			}
			if set != 0 {
				used[n], shades[j.Rolls[n].Shade] = true, true
			}
		}
		if len(shades) < 2 && (!found || len(used) < least) {
			least, found = len(used), true
		}
	}
	give(0)
	return least, found
}

func inSomeOrder(j floor.Job, roll, set, from int) bool {
	if from > j.Rolls[roll].Length {
		return false
	}
	if set == 0 {
		return true
	}
	for n, s := range j.Strips {
		if set&(1<<n) == 0 {
			continue
		}
		at := from
		for !isMatch(j.Rolls[roll], j.Repeat, at, s) {
			at++
		}
		if inSomeOrder(j, roll, set^1<<n, at+s.To-s.From) {
			return true
		}
	}
	return false
}

// lower is LowerBound by trying all sets of rolls.
func lower(j floor.Job) (int, bool) {
	need := 0
	for _, s := range j.Strips {
		need += s.To - s.From
	}
	least, found := 0, false
	for set := range 1 << len(j.Rolls) {
		sum, shades := 0, map[int]bool{}
		for n, r := range j.Rolls {
			if set&(1<<n) != 0 {
				sum += r.Length
				shades[r.Shade] = true
			}
		}
		if count := bits.OnesCount(uint(set)); sum >= need && len(shades) < 2 && (!found || count < least) {
			least, found = count, true
		}
	}
	return least, found
}

func expectFewest(t *testing.T, j floor.Job, want int, is bool) {
	t.Helper()
	l, n, found, e := floor.Fewest(j)
	if n != want || found != is || e != api.OK {
		t.Errorf("P8.7: Fewest(%v) is %v, %d, %v, %v, not %d, %v", j, l, n, found, e, want, is)
	}
	if !found {
		if len(l) != 0 {
			t.Errorf("P8.7: Fewest(%v) is %v", j, l)
		}
		return
	}
	used, e := floor.Used(j, l)
	if check(j, l) != api.OK || used != n || e != api.OK {
		t.Errorf("P8.7: Fewest(%v) is %v, %d, which has %v rolls and the errors %v, %v", j, l, n, used, check(j, l), e)
	}
	if k, ok, e := floor.LowerBound(j); k > n || !ok || e != api.OK {
		t.Errorf("P8.7: Fewest(%v) is %d, and LowerBound %d, %v, %v", j, n, k, ok, e)
	}
}

func TestFewest(t *testing.T) {
	count := map[int]int{}
	for _, j := range jobs(9, 800, small()) {
		want, is := orders(j)
		if len(j.Strips) < 3 || len(j.Strips) == 3 && len(j.Rolls) < 3 {
			if all, found := search(j, nil); all != want || found != is {
				t.Fatalf("the tests' ways to find the fewest rolls of %v differ: %d, %v and %d, %v", j, want, is, all, found)
			}
		}
		if !is {
			want, count[-1] = 0, count[-1]+1
		}
		count[want]++
		expectFewest(t, j, want, is)
	}
	for _, k := range []int{-1, 0, 1, 2} {
		if count[k] < 20 {
			t.Errorf("P8.7: only %d jobs have the answer %d", count[k], k)
		}
	}
}

func TestFewestOfLargeJobs(t *testing.T) {
	count := map[int]int{}
	for _, j := range jobs(10, 800, size{strips: api.MaxStrips, rolls: api.MaxRolls, strip: 12, roll: 30, repeat: 3, shades: 2}) {
		want, is := orders(j)
		if is {
			count[want]++
		}
		expectFewest(t, j, want, is)
	}
	for k := range 4 {
		if count[k] < 10 {
			t.Errorf("P8.7: only %d jobs have the answer %d", count[k], k)
		}
	}
}

func TestFewestExamples(t *testing.T) {
	long, short, other := api.Roll{Length: 24}, api.Roll{Length: 9}, api.Roll{Length: 17, Shade: 5}
	strips := plain().Strips
	for _, x := range []struct {
		strips []api.Strip
		rolls  []api.Roll
		n      int
		is     bool
	}{
		{strips, plain().Rolls, 2, true},
		{strips, []api.Roll{long}, 1, true},
		{strips, []api.Roll{{Length: 23}}, 0, false},
		{strips, []api.Roll{short, short, short}, 3, true},
		{strips, []api.Roll{short, short, short, {Length: 16}}, 2, true},
		{strips, []api.Roll{short, short, short, {Length: 16}, long}, 1, true},
		{strips, []api.Roll{short, other, short}, 0, false},
		{strips, []api.Roll{short, other, short, other}, 2, true},
		{strips, []api.Roll{short, other, short, other, short}, 2, true},
		{strips, []api.Roll{other, short, {Length: 24, Shade: 99}}, 1, true},
		{strips, nil, 0, false},
		{nil, nil, 0, true},
		{nil, []api.Roll{long, other}, 0, true},
	} {
		expectFewest(t, floor.Job{Strips: x.strips, Rolls: x.rolls, Repeat: 1}, x.n, x.is)
	}
	// The order on the roll matters: the second strip lies before the first one.
	two := floor.Job{Strips: []api.Strip{{From: 0, To: 4}, {From: 1, To: 3}}, Rolls: []api.Roll{{Length: 9, Phase: 1}}, Repeat: 6}
	expectFewest(t, two, 1, true)
	two.Rolls[0].Length = 8
	expectFewest(t, two, 0, false)
}

func TestLowerBound(t *testing.T) {
	for _, j := range append(jobs(11, 600, small()), jobs(12, 600, large())...) {
		want, is := lower(j)
		if n, found, e := floor.LowerBound(j); n != want || found != is || e != api.OK {
			t.Errorf("P8.7: LowerBound(%v) is %d, %v, %v, not %d, %v", j, n, found, e, want, is)
		}
	}
	strips := plain().Strips
	for _, x := range []struct {
		strips []api.Strip
		rolls  []api.Roll
		n      int
		is     bool
	}{
		{strips, plain().Rolls, 2, true},
		{strips, []api.Roll{{Length: 24}}, 1, true},
		{strips, []api.Roll{{Length: 23}}, 0, false},
		{strips, []api.Roll{{Length: 23}, {Length: 1}}, 2, true}, // only a bound
		{strips, []api.Roll{{Length: 1}, {Length: 4}, {Length: 20}}, 2, true},
		{strips, []api.Roll{{Length: 23}, {Length: 23, Shade: 1}}, 0, false},
		{strips, []api.Roll{{Length: 8}, {Length: 12, Shade: 1}, {Length: 8}, {Length: 12, Shade: 1}, {Length: 8}}, 2, true},
		{strips, nil, 0, false},
		{nil, nil, 0, true},
		{nil, []api.Roll{{Length: 1}}, 0, true},
	} {
		j := floor.Job{Strips: x.strips, Rolls: x.rolls, Repeat: 1}
		if n, found, e := floor.LowerBound(j); n != x.n || found != x.is || e != api.OK {
			t.Errorf("P8.7: LowerBound(%v) is %d, %v, %v, not %d, %v", j, n, found, e, x.n, x.is)
		}
	}
}
