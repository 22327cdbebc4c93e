package floor_test

import (
	"math"
	"math/rand"
	"reflect"
	"slices"
	"testing"

	"linoleum/api"
	"linoleum/floor"
)

// plain is the job of the chapter's example 3.
func plain() floor.Job {
	s := api.Strip{To: 8}
	return floor.Job{Strips: []api.Strip{s, s, s}, Rolls: []api.Roll{{Length: 20}, {Length: 10}}, Repeat: 1}
}

// inlaid has the roll and the strip of the chapter's example 2, and another strip.
func inlaid() floor.Job {
	return floor.Job{Strips: []api.Strip{{From: 3, To: 5}, {X: 4, From: 0, To: 7}}, Rolls: []api.Roll{{Length: 15, Phase: 2}}, Repeat: 6}
}

// longestJob has as many strips and rolls as there may be, and the greatest lengths, phases and shades.
func longestJob() floor.Job {
	j := floor.Job{Repeat: api.MaxCells}
	for i := range api.MaxStrips {
		j.Strips = append(j.Strips, api.Strip{X: 16*i - 20, From: i, To: api.MaxSide})
	}
	for i := range api.MaxRolls {
		j.Rolls = append(j.Rolls, api.Roll{Length: api.MaxCut, Phase: api.MaxCells - 1 - i, Shade: api.MaxShade})
	}
	return j
}

// size bounds a random job.
type size struct {
	strips, rolls, strip, roll, repeat, shades int
}

func randomJob(random *rand.Rand, most size) floor.Job {
	j := floor.Job{Repeat: 1 + random.Intn(most.repeat)}
	for range random.Intn(most.strips + 1) {
		from := random.Intn(8)
		j.Strips = append(j.Strips, api.Strip{X: random.Intn(81) - 20, From: from, To: from + 1 + random.Intn(most.strip)})
	}
	for range random.Intn(most.rolls + 1) {
		j.Rolls = append(j.Rolls, api.Roll{Length: 1 + random.Intn(most.roll), Phase: random.Intn(j.Repeat), Shade: random.Intn(most.shades)})
	}
	return j
}

func jobs(seed int64, count int, most size) []floor.Job {
	random := rand.New(rand.NewSource(seed))
	list := []floor.Job{{Repeat: 1}, plain(), inlaid(), longestJob()}
	for range count {
		list = append(list, randomJob(random, most))
	}
	return list
}

func small() size { return size{strips: 4, rolls: 3, strip: 4, roll: 14, repeat: 4, shades: 2} }

func large() size {
	return size{strips: api.MaxStrips, rolls: api.MaxRolls, strip: 20, roll: 70, repeat: 9, shades: 2}
}

func copyOfJob(j floor.Job) floor.Job {
	return floor.Job{Strips: slices.Clone(j.Strips), Rolls: slices.Clone(j.Rolls), Repeat: j.Repeat}
}

type badJob struct {
	floor.Job
	e api.Errno
}

func badStrips() []api.Strip {
	list := []api.Strip{{}, {X: -21, To: 1}, {X: 61, To: 1}, {From: 5, To: 5}, {From: 6, To: 5}, {From: -1, To: 5}, {From: 59, To: 61}, {From: 60, To: 60}, {From: 60, To: 61}}
	for _, n := range numbers()[1:] {
		list = append(list, api.Strip{X: n, To: 1}, api.Strip{From: n, To: 1}, api.Strip{To: n}, api.Strip{X: n, From: n, To: n})
	}
	return append(list, api.Strip{From: math.MinInt, To: math.MaxInt})
}

// badRolls has rolls that are refused where the repeat is 6.
func badRolls() []api.Roll {
	list := []api.Roll{{}, {Length: 301}, {Length: 5, Phase: 6}, {Length: 5, Shade: 100}}
	for _, n := range numbers() {
		list = append(list, api.Roll{Length: n}, api.Roll{Length: 5, Phase: n}, api.Roll{Length: 5, Shade: n}, api.Roll{Length: n, Phase: n, Shade: n})
	}
	return list
}

func badRepeats() []int {
	return append(numbers(), 0, api.MaxCells+1)
}

func badJobs() []badJob {
	var list []badJob
	add := func(e api.Errno, change func(j *floor.Job)) {
		j := inlaid()
		change(&j)
		list = append(list, badJob{j, e})
	}
	// ErrLarge comes before ErrArg.
	for _, s := range []api.Strip{{To: 1}, {}} {
		many := slices.Repeat([]api.Strip{s}, api.MaxStrips+1)
		add(api.ErrLarge, func(j *floor.Job) { j.Strips = many })
		add(api.ErrLarge, func(j *floor.Job) { j.Strips, j.Repeat = many, 0 })
		add(api.ErrLarge, func(j *floor.Job) { j.Strips, j.Rolls = many, []api.Roll{{}} })
	}
	for _, r := range []api.Roll{{Length: 1}, {}} {
		many := slices.Repeat([]api.Roll{r}, api.MaxRolls+1)
		add(api.ErrLarge, func(j *floor.Job) { j.Rolls = many })
		add(api.ErrLarge, func(j *floor.Job) { j.Rolls, j.Repeat = many, 0 })
		add(api.ErrLarge, func(j *floor.Job) { j.Rolls, j.Strips = many, []api.Strip{{}} })
	}
	for _, s := range badStrips() {
		add(api.ErrArg, func(j *floor.Job) { j.Strips[0] = s })
		add(api.ErrArg, func(j *floor.Job) { j.Strips[1] = s })
		add(api.ErrArg, func(j *floor.Job) { j.Strips, j.Rolls = []api.Strip{s}, nil })
	}
	for _, r := range badRolls() {
		add(api.ErrArg, func(j *floor.Job) { j.Rolls[0] = r })
		add(api.ErrArg, func(j *floor.Job) { j.Rolls = append(j.Rolls, r) })
		add(api.ErrArg, func(j *floor.Job) { j.Rolls, j.Strips = []api.Roll{r}, nil })
	}
	for _, n := range badRepeats() {
		add(api.ErrArg, func(j *floor.Job) { j.Repeat = n })
		add(api.ErrArg, func(j *floor.Job) { j.Repeat, j.Rolls[0].Phase = n, 0 })
		add(api.ErrArg, func(j *floor.Job) { *j = floor.Job{Repeat: n} })
	}
	add(api.ErrArg, func(j *floor.Job) { j.Repeat = 2 }) // the phase of the roll is 2
	return list
}

func TestValidateJob(t *testing.T) {
	for _, j := range append(jobs(1, 300, small()), jobs(2, 300, large())...) {
		if e := floor.ValidateJob(j); e != api.OK {
			t.Errorf("P8.4: ValidateJob(%v) is %v", j, e)
		}
	}
	for _, s := range []api.Strip{{X: -20, To: 1}, {X: 60, To: 60}, {From: 59, To: 60}} {
		for _, r := range []api.Roll{{Length: 1}, {Length: 300, Phase: 5, Shade: 99}} {
			j := floor.Job{Strips: []api.Strip{s}, Rolls: []api.Roll{r}, Repeat: 6}
			if e := floor.ValidateJob(j); e != api.OK {
				t.Errorf("P8.4: ValidateJob(%v) is %v", j, e)
			}
		}
	}
	for _, x := range badJobs() {
		if e := floor.ValidateJob(x.Job); e != x.e {
			t.Errorf("P8.4: ValidateJob(%v) is %v, not %v", x.Job, e, x.e)
		}
	}
}

// jobCalls returns, for each function with a job, one that reports whether all results but the error are zero values, and the error.
func jobCalls(j floor.Job, cuts []api.Cut, width int) map[string]func() (bool, api.Errno) {
	type result = func() (bool, api.Errno)
	return map[string]result{
		"Check":  func() (bool, api.Errno) { return true, floor.Check(j, cuts) },
		"Used":   func() (bool, api.Errno) { n, e := floor.Used(j, cuts); return n == 0, e },
		"Fewest": func() (bool, api.Errno) { l, n, is, e := floor.Fewest(j); return len(l) == 0 && n == 0 && !is, e },
		"LowerBound": func() (bool, api.Errno) {
			n, is, e := floor.LowerBound(j)
			return n == 0 && !is, e
		},
		"Offcuts": func() (bool, api.Errno) { l, e := floor.Offcuts(j, cuts); return len(l) == 0, e },
		"Laid": func() (bool, api.Errno) {
			n, e := floor.Laid(api.Pattern{A: 1, C: 1, Cells: []int{1}}, width, j, cuts, 0, 0)
			return n == 0, e
		},
	}
}

// The errors of the job come before those of the other arguments.
func TestErrorsOfJobFirst(t *testing.T) {
	for _, x := range badJobs() {
		for _, cuts := range [][]api.Cut{nil, {{At: 1}, {Strip: 1, At: 4}}, {{Strip: -1, Roll: -1, At: -1}}} {
			for _, width := range []int{4, 0} {
				for name, call := range jobCalls(x.Job, cuts, width) {
					if zero, e := call(); !zero || e != x.e {
						t.Errorf("P8.4, R2, R3: %s of %v with %v is %v, not %v, and all other results zero: %v", name, x.Job, cuts, e, x.e, zero)
					}
				}
			}
		}
	}
}

// phaseAt returns the phase of a place or of a height, step by step.
func phaseAt(phase, steps, repeat int) int {
	for range steps {
		if phase++; phase == repeat {
			phase = 0
		}
	}
	return phase
}

func isMatch(r api.Roll, repeat, at int, s api.Strip) bool {
	return phaseAt(r.Phase, at, repeat) == phaseAt(0, s.From, repeat)
}

// check is P8.5 word by word, place by place.
func check(j floor.Job, cuts []api.Cut) api.Errno {
	done := map[int]bool{}
	taken := map[[2]int]bool{}
	for _, c := range cuts {
		if c.Strip < 0 || c.Strip >= len(j.Strips) || c.Roll < 0 || c.Roll >= len(j.Rolls) {
			return api.ErrNone
		}
		if done[c.Strip] {
			return api.ErrState
		}
		done[c.Strip] = true
		s, r := j.Strips[c.Strip], j.Rolls[c.Roll]
		length := s.To - s.From
		if c.At < 0 || c.At >= r.Length || c.At+length > r.Length {
			return api.ErrFit
		}
		if !isMatch(r, j.Repeat, c.At, s) || r.Shade != j.Rolls[cuts[0].Roll].Shade {
			return api.ErrMatch
		}
		for i := range length {
			if taken[[2]int{c.Roll, c.At + i}] {
				return api.ErrOverlap
			}
		}
		for i := range length {
			taken[[2]int{c.Roll, c.At + i}] = true
		}
	}
	if len(done) < len(j.Strips) {
		return api.ErrShort
	}
	return api.OK
}

// offcuts is P8.8 place by place.
func offcuts(j floor.Job, cuts []api.Cut) [][]api.Span {
	var list [][]api.Span
	for n, r := range j.Rolls {
		taken := make([]bool, r.Length)
		for _, c := range cuts {
			if c.Roll == n {
				for i := range j.Strips[c.Strip].To - j.Strips[c.Strip].From {
					taken[c.At+i] = true
				}
			}
		}
		var spans []api.Span
		for place, is := range taken {
			if is {
				continue
			}
			if place == 0 || taken[place-1] {
				spans = append(spans, api.Span{From: place})
			}
			spans[len(spans)-1].To = place + 1
		}
		list = append(list, spans)
	}
	return list
}

func expectCheck(t *testing.T, j floor.Job, cuts []api.Cut) api.Errno {
	t.Helper()
	want := check(j, cuts)
	used, left := 0, [][]api.Span(nil)
	if want == api.OK {
		rolls := map[int]bool{}
		for _, c := range cuts {
			rolls[c.Roll] = true
		}
		used, left = len(rolls), offcuts(j, cuts)
	}
	if e := floor.Check(j, cuts); e != want {
		t.Errorf("P8.5: Check(%v, %v) is %v, not %v", j, cuts, e, want)
	}
	if n, e := floor.Used(j, cuts); n != used || e != want {
		t.Errorf("P8.5: Used(%v, %v) is %v, %v, not %v, %v", j, cuts, n, e, used, want)
	}
	if l, e := floor.Offcuts(j, cuts); !slices.EqualFunc(l, left, slices.Equal) || e != want {
		t.Errorf("P8.8: Offcuts(%v, %v) is %v, %v, not %v, %v", j, cuts, l, e, left, want)
	}
	return want
}

// someCuts returns random cuts of random strips that often keep all conditions.
func someCuts(random *rand.Rand, j floor.Job) []api.Cut {
	var cuts []api.Cut
	for _, n := range random.Perm(len(j.Strips)) {
		for range 6 {
			c := api.Cut{Strip: n, Roll: random.Intn(len(j.Rolls))}
			c.At = random.Intn(j.Rolls[c.Roll].Length)
			for !isMatch(j.Rolls[c.Roll], j.Repeat, c.At, j.Strips[n]) {
				c.At++
			}
			if e := check(j, append(slices.Clone(cuts), c)); e == api.OK || e == api.ErrShort {
				cuts = append(cuts, c)
				break
			}
		}
	}
	return cuts
}

// changed returns cuts with a random change, which often breaks just one condition.
func changed(random *rand.Rand, j floor.Job, cuts []api.Cut) []api.Cut {
	cuts = slices.Clone(cuts)
	if len(cuts) == 0 {
		return []api.Cut{{Strip: random.Intn(3) - 1, Roll: random.Intn(3) - 1, At: random.Intn(4)}}
	}
	c := &cuts[random.Intn(len(cuts))]
	switch random.Intn(6) {
	case 0:
		c.Strip = random.Intn(len(j.Strips)+2) - 1
	case 1:
		c.Roll = random.Intn(len(j.Rolls)+2) - 1
	case 2:
		c.At += random.Intn(7) - 3
	case 3:
		c.At += (random.Intn(5) - 2) * j.Repeat
	case 4:
		cuts = append(cuts, *c)
	case 5:
		random.Shuffle(len(cuts), func(i, k int) { cuts[i], cuts[k] = cuts[k], cuts[i] })
	}
	return cuts
}

func TestCheck(t *testing.T) {
	random := rand.New(rand.NewSource(3))
	count := map[api.Errno]int{}
	for _, j := range append(jobs(4, 500, small()), jobs(5, 300, large())...) {
		expectCheck(t, j, nil)
		expectCheck(t, j, []api.Cut{})
		if len(j.Rolls) == 0 {
			expectCheck(t, j, []api.Cut{{}})
			continue
		}
		for range 10 {
			cuts := someCuts(random, j)
			count[expectCheck(t, j, cuts)]++
			for range 4 {
				cuts = changed(random, j, cuts)
				count[expectCheck(t, j, cuts)]++
			}
		}
	}
	for _, e := range []api.Errno{api.OK, api.ErrNone, api.ErrState, api.ErrFit, api.ErrMatch, api.ErrOverlap, api.ErrShort} {
		if count[e] < 300 {
			t.Errorf("P8.5: only %d cuts have the error %v", count[e], e)
		}
	}
}

func TestCheckExamples(t *testing.T) {
	j := plain()
	right := []api.Cut{{Strip: 0, Roll: 0, At: 0}, {Strip: 2, Roll: 0, At: 12}, {Strip: 1, Roll: 1, At: 1}}
	shaded := plain()
	shaded.Rolls[1].Shade = 4
	for _, x := range []struct {
		j    floor.Job
		cuts []api.Cut
		e    api.Errno
	}{
		{j, right, api.OK},
		{j, []api.Cut{right[2], right[1], right[0]}, api.OK},
		{j, []api.Cut{{At: 8}, {Strip: 1}, {Strip: 2, Roll: 1}}, api.OK}, // cuts that touch
		{j, right[:2], api.ErrShort},
		{j, right[:0], api.ErrShort},
		{j, []api.Cut{{Strip: 3, At: -1}}, api.ErrNone},
		{j, []api.Cut{{Strip: -1}}, api.ErrNone},
		{j, []api.Cut{{Roll: 2, At: -1}}, api.ErrNone},
		{j, []api.Cut{{Roll: -1}}, api.ErrNone},
		{j, []api.Cut{right[0], {Roll: 2}}, api.ErrNone},
		{j, []api.Cut{right[0], {At: -1}}, api.ErrState},
		{j, []api.Cut{right[0], right[1], right[2], right[0]}, api.ErrState},
		{j, []api.Cut{{At: 13}}, api.ErrFit},
		{j, []api.Cut{{Roll: 1, At: 3}}, api.ErrFit},
		{j, []api.Cut{{Roll: 1, At: 2}}, api.ErrShort},
		{j, []api.Cut{right[0], {Strip: 1, At: 7}}, api.ErrOverlap},
		{j, []api.Cut{right[1], {Strip: 1, At: 5}}, api.ErrOverlap},
		{j, []api.Cut{right[1], {Strip: 1, At: 12}}, api.ErrOverlap},
		{j, []api.Cut{right[1], {Strip: 1, Roll: 1, At: 2}}, api.ErrShort}, // another roll
		// The first cut with an error decides; of its errors, the one named first.
		{j, []api.Cut{{At: 13}, {Strip: 3}}, api.ErrFit},
		{j, []api.Cut{right[0], right[0], {Strip: 3}}, api.ErrState},
		{shaded, right, api.ErrMatch},
		{shaded, []api.Cut{right[2], right[0]}, api.ErrMatch},
		{shaded, right[2:], api.ErrShort},
		{shaded, []api.Cut{right[0], {Strip: 1, Roll: 1, At: 3}}, api.ErrFit},
		{inlaid(), []api.Cut{{At: 1}}, api.ErrShort},
		{inlaid(), []api.Cut{{At: 13}}, api.ErrShort},
		{inlaid(), []api.Cut{{At: 2}}, api.ErrMatch},
		{inlaid(), []api.Cut{{At: 14}}, api.ErrFit},
		{inlaid(), []api.Cut{{At: 1}, {Strip: 1, At: 4}}, api.OK},
		{inlaid(), []api.Cut{{At: 7}, {Strip: 1, At: 4}}, api.ErrOverlap},
		{inlaid(), []api.Cut{{At: 7}, {Strip: 1, At: 5}}, api.ErrMatch}, // before ErrOverlap
		{floor.Job{Repeat: 1}, nil, api.OK},
		{floor.Job{Repeat: 1}, []api.Cut{{}}, api.ErrNone},
	} {
		if e := check(x.j, x.cuts); e != x.e {
			t.Errorf("the test's own check of %v, %v is %v", x.j, x.cuts, e)
		}
		expectCheck(t, x.j, x.cuts)
	}
	for _, n := range numbers() {
		for _, c := range []api.Cut{{Strip: n}, {Roll: n}, {At: n}, {Strip: n, Roll: n, At: n}} {
			expectCheck(t, j, []api.Cut{c})
			expectCheck(t, inlaid(), []api.Cut{{At: 1}, c})
		}
	}
}

func TestOffcutsExamples(t *testing.T) {
	three := plain()
	three.Rolls = append(three.Rolls, api.Roll{Length: 5, Shade: 7})
	right := []api.Cut{{Strip: 2, Roll: 0, At: 12}, {Strip: 0, Roll: 0, At: 0}, {Strip: 1, Roll: 1, At: 1}}
	full := floor.Job{Strips: []api.Strip{{To: 60}, {From: 2, To: 3}}, Rolls: []api.Roll{{Length: 61}}, Repeat: 1}
	for _, x := range []struct {
		j    floor.Job
		cuts []api.Cut
		want [][]api.Span
	}{
		{plain(), right, [][]api.Span{{{From: 8, To: 12}}, {{From: 0, To: 1}, {From: 9, To: 10}}}},
		{three, right, [][]api.Span{{{From: 8, To: 12}}, {{From: 0, To: 1}, {From: 9, To: 10}}, {{From: 0, To: 5}}}},
		{full, []api.Cut{{At: 1}, {Strip: 1}}, [][]api.Span{nil}},
		{floor.Job{Rolls: []api.Roll{{Length: 9}}, Repeat: 1}, nil, [][]api.Span{{{From: 0, To: 9}}}},
		{floor.Job{Repeat: 1}, nil, nil},
	} {
		if l, e := floor.Offcuts(x.j, x.cuts); !slices.EqualFunc(l, x.want, slices.Equal) || e != api.OK {
			t.Errorf("P8.8: Offcuts(%v, %v) is %v, %v, not %v", x.j, x.cuts, l, e, x.want)
		}
	}
}

func TestNext(t *testing.T) {
	random := rand.New(rand.NewSource(6))
	for range 3000 {
		repeat := 1 + random.Intn([]int{1, 7, api.MaxCells}[random.Intn(3)])
		r := api.Roll{Length: 1 + random.Intn(api.MaxCut), Phase: random.Intn(repeat), Shade: random.Intn(api.MaxShade + 1)}
		from := random.Intn(api.MaxSide)
		s := api.Strip{X: random.Intn(81) - 20, From: from, To: from + 1 + random.Intn(api.MaxSide-from)}
		at := random.Intn(api.MaxCut + 1)
		want := at
		for !isMatch(r, repeat, want, s) {
			want++
		}
		if n, e := floor.Next(r, repeat, at, s); n != want || e != api.OK {
			t.Errorf("P8.6: Next(%v, %d, %d, %v) is %v, %v, not %v", r, repeat, at, s, n, e, want)
		}
	}
}

func TestNextExamples(t *testing.T) {
	r, s := api.Roll{Length: 15, Phase: 2}, api.Strip{From: 3, To: 5}
	for _, x := range []struct{ repeat, at, want int }{{6, 0, 1}, {6, 1, 1}, {6, 2, 7}, {6, 7, 7}, {6, 8, 13}, {6, 14, 19}, {6, 299, 301}, {6, 300, 301}, {144, 0, 1}, {144, 2, 145}, {144, 300, 433}, {3, 0, 1}} {
		if n, e := floor.Next(r, x.repeat, x.at, s); n != x.want || e != api.OK {
			t.Errorf("P8.6: Next(%v, %d, %d, %v) is %v, %v, not %v", r, x.repeat, x.at, s, n, e, x.want)
		}
	}
	for _, at := range []int{0, 17, api.MaxCut} {
		if n, e := floor.Next(api.Roll{Length: 1}, 1, at, s); n != at || e != api.OK {
			t.Errorf("P8.6: Next of plain goods from %d on is %v, %v", at, n, e)
		}
	}
	expect := func(r api.Roll, repeat, at int, s api.Strip) {
		t.Helper()
		if n, e := floor.Next(r, repeat, at, s); n != 0 || e != api.ErrArg {
			t.Errorf("P8.6: Next(%v, %d, %d, %v) is %v, %v", r, repeat, at, s, n, e)
		}
	}
	for _, bad := range badRolls() {
		expect(bad, 6, 0, s)
	}
	for _, bad := range badStrips() {
		expect(r, 6, 0, bad)
	}
	for _, bad := range badRepeats() {
		expect(r, bad, 0, s)
		expect(api.Roll{Length: 1}, bad, 0, s)
	}
	for _, bad := range append(numbers(), api.MaxCut+2) {
		expect(r, 6, bad, s)
		expect(api.Roll{Length: 1}, 1, bad, s)
	}
	expect(r, 2, 0, s)
}

// jobResults returns what all functions return for a job.
func jobResults(j floor.Job, cuts []api.Cut) []any {
	var list []any
	put := func(results ...any) { list = append(list, results...) }
	put(floor.ValidateJob(j), floor.Check(j, cuts))
	put(two(floor.Used(j, cuts))...)
	put(two(floor.Offcuts(j, cuts))...)
	fewest, n, found, e := floor.Fewest(j)
	put(fewest, n, found, e)
	least, found, e := floor.LowerBound(j)
	put(least, found, e)
	p := api.Pattern{A: 1, C: 1, Cells: []int{3}}
	for _, s := range j.Strips {
		put(two(floor.Laid(p, 4, j, cuts, s.X, s.From))...)
	}
	return list
}

func TestMemoryAndEqualCallsOfJobs(t *testing.T) {
	for _, j := range append(jobs(7, 200, small()), jobs(8, 200, large())...) {
		cuts, _, _, _ := floor.Fewest(j)
		slices.Reverse(cuts)
		kept, same := slices.Clone(cuts), copyOfJob(j)
		first, second := jobResults(j, cuts), jobResults(same, kept)
		if !reflect.DeepEqual(first, second) {
			t.Errorf("R11: %v has the results %v and then %v", j, first, second)
		}
		for _, x := range first {
			switch list := x.(type) {
			case []api.Cut:
				clear(list)
			case [][]api.Span:
				for _, spans := range list {
					clear(append(spans, api.Span{})) // also what lies behind it in memory
				}
			}
		}
		if !slices.Equal(j.Strips, same.Strips) || !slices.Equal(j.Rolls, same.Rolls) || !slices.Equal(cuts, kept) {
			t.Errorf("R5: a call or a change of its results has changed an argument: %v, %v", j, cuts)
		}
		if third := jobResults(j, cuts); !reflect.DeepEqual(third, second) {
			t.Errorf("R5: %v has the results %v, and after a change of results %v", j, second, third)
		}
	}
}
