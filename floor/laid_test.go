package floor_test

import (
	"math"
	"math/rand"
	"testing"

	"linoleum/api"
	"linoleum/floor"
	"linoleum/pattern"
)

// chess has the periods 2 around and 2 across.
func chess() api.Pattern { return api.Pattern{A: 2, B: 1, C: 1, Cells: []int{0, 1}} }

// wall has the periods 6 around and 3 across.
func wall() api.Pattern {
	return api.Pattern{A: 3, B: 1, C: 2, Cells: []int{0, 1, 2, 3, 4, 5}}
}

// plainColor has all periods.
func plainColor() api.Pattern { return api.Pattern{A: 1, C: 1, Cells: []int{7}} }

func patterns() []api.Pattern {
	return []api.Pattern{
		chess(), wall(), plainColor(),
		{A: 2, C: 3, Cells: []int{0, 1, 1, 1, 2, 0}},
		{A: 5, B: 2, C: 1, Cells: []int{0, 1, 2, 3, 4}},
		{A: 4, B: 2, C: 4, Cells: []int{1, 1, 1, 2, 1, 1, 1, 2, 1, 1, 1, 2, 2, 2, 2, 2}},
		{A: 4, B: 2, C: 1, Cells: []int{1, 0, 1, 0}}, // its least pattern is smaller
		{A: 1, C: 8, Cells: []int{0, 1, 2, 3, 4, 5, 6, 7}},
	}
}

// laid is P8.9 word by word, for arguments that have none of the errors before ErrNone. The phases go by steps, as on the roll.
func laid(p api.Pattern, width int, j floor.Job, cuts []api.Cut, x, y int) (int, api.Errno) {
	for n, s := range j.Strips {
		for _, c := range cuts {
			for column := range width {
				for i := range s.To - s.From {
					if c.Strip == n && x == s.X+column && y == s.From+i {
						return pattern.At(p, column, phaseAt(j.Rolls[c.Roll].Phase, c.At+i, j.Repeat))
					}
				}
			}
		}
	}
	return 0, api.ErrNone
}

// The colors of a room's floor are those of the plane, and no cell beside its strips has one.
func TestLaidFloorIsThePlane(t *testing.T) {
	random := rand.New(rand.NewSource(13))
	laidFloors := 0
	list := append(rooms(14, 150, 14), hall(), bent(), parted())
	for i, r := range list {
		p := patterns()[i%len(patterns())]
		around, across, _ := pattern.Drum(p)
		width := across * (1 + random.Intn(20/across))
		offset := random.Intn(width)
		l, e := floor.Strips(r, width, offset)
		if e != api.OK || len(l) > api.MaxStrips {
			continue
		}
		j := floor.Job{Strips: l, Repeat: around * (1 + random.Intn(3))}
		for range api.MaxRolls {
			j.Rolls = append(j.Rolls, api.Roll{Length: 60 + random.Intn(60), Phase: random.Intn(j.Repeat), Shade: 3})
		}
		cuts, _, found, e := floor.Fewest(j)
		if !found || e != api.OK {
			continue
		}
		random.Shuffle(len(cuts), func(i, k int) { cuts[i], cuts[k] = cuts[k], cuts[i] })
		laidFloors++
		for x := -3; x < 20; x++ {
			for y := -3; y < 20; y++ {
				want, e := pattern.At(p, x-offset, y)
				if count(l, width, x, y) == 0 {
					want, e = 0, api.ErrNone
				}
				if color, got := floor.Laid(p, width, j, cuts, x, y); color != want || got != e {
					t.Fatalf("P8.9, S4: Laid(%v, %d, %v, %v, %d, %d) is %v, %v, not %v, %v", p, width, j, cuts, x, y, color, got, want, e)
				}
			}
		}
	}
	if laidFloors < 100 {
		t.Errorf("P8.9: only %d floors were laid", laidFloors)
	}
}

// count returns how many strips have a cell.
func count(list []api.Strip, width, x, y int) int {
	n := 0
	for _, s := range list {
		if s.X <= x && x < s.X+width && s.From <= y && y < s.To {
			n++
		}
	}
	return n
}

// The strips of a job may lie anywhere, also one over the other: then the first one has the cell.
func TestLaid(t *testing.T) {
	random := rand.New(rand.NewSource(15))
	laidFloors, covered := 0, 0
	for _, j := range jobs(16, 500, size{strips: 6, rolls: 3, strip: 5, roll: 40, repeat: 4, shades: 1}) {
		p := patterns()[random.Intn(3)]
		around, across, _ := pattern.Drum(p)
		width := across * (1 + random.Intn(3))
		j.Repeat *= around
		for i := range j.Strips {
			j.Strips[i].X = random.Intn(12) - 4
		}
		if floor.ValidateJob(j) != api.OK {
			continue
		}
		cuts, _, found, _ := floor.Fewest(j)
		if !found || len(cuts) == 0 {
			continue
		}
		laidFloors++
		random.Shuffle(len(cuts), func(i, k int) { cuts[i], cuts[k] = cuts[k], cuts[i] })
		for x := -6; x < 18; x++ {
			for y := -2; y < 15; y++ {
				want, e := laid(p, width, j, cuts, x, y)
				if color, got := floor.Laid(p, width, j, cuts, x, y); color != want || got != e {
					t.Fatalf("P8.9: Laid(%v, %d, %v, %v, %d, %d) is %v, %v, not %v, %v", p, width, j, cuts, x, y, color, got, want, e)
				}
				if count(j.Strips, width, x, y) > 1 {
					covered++
				}
			}
		}
	}
	if laidFloors < 100 || covered < 1000 {
		t.Errorf("P8.9: only %d floors were laid, and only %d cells have several strips", laidFloors, covered)
	}
}

// The strips begin at the heights 4 and 5, with these phases; the second one lies half below the first one. Where no strip is, the row has a -.
func TestLaidExamples(t *testing.T) {
	strips := []api.Strip{{X: -1, From: 4, To: 6}, {X: 1, From: 5, To: 8}}
	rolls := []api.Roll{{Length: 20, Phase: 5}}
	rows := map[int]string{4: "-120---", 5: "-45353-", 6: "---012-", 7: "---345-"}
	for _, x := range []struct {
		repeat int
		cuts   []api.Cut
	}{
		{6, []api.Cut{{Strip: 1, At: 6}, {Strip: 0, At: 11}}},
		{6, []api.Cut{{Strip: 0, At: 5}, {Strip: 1, At: 12}}},
		{12, []api.Cut{{Strip: 1, At: 0}, {Strip: 0, At: 11}}},
	} {
		j := floor.Job{Strips: strips, Rolls: rolls, Repeat: x.repeat}
		for y := range 12 {
			for column := range 7 {
				want, wanted := 0, api.ErrNone
				if row := rows[y]; row != "" && row[column] != '-' {
					want, wanted = int(row[column]-'0'), api.OK
				}
				if color, e := floor.Laid(wall(), 3, j, x.cuts, column-2, y); color != want || e != wanted {
					t.Errorf("P8.9: Laid of %v, %v at %d, %d is %v, %v, not %v, %v", j, x.cuts, column-2, y, color, e, want, wanted)
				}
			}
		}
	}
}

func TestErrorsOfLaid(t *testing.T) {
	good := floor.Job{Strips: []api.Strip{{To: 4}}, Rolls: []api.Roll{{Length: 9}}, Repeat: 6}
	cuts := []api.Cut{{}}
	odd := good
	odd.Repeat = 4
	for _, x := range []struct {
		p     api.Pattern
		width int
		j     floor.Job
		cuts  []api.Cut
		x, y  int
		e     api.Errno
	}{
		{wall(), 3, good, cuts, 0, 0, api.OK},
		{wall(), 18, good, cuts, 17, 3, api.OK},
		{plainColor(), 20, good, cuts, 19, 3, api.OK},
		{plainColor(), 1, odd, cuts, 0, 3, api.OK},
		// The first ones of these have the errors after their own, too.
		{api.Pattern{}, 0, floor.Job{}, nil, -1, 0, api.ErrArg},
		{api.Pattern{A: 13, C: 12}, 0, floor.Job{Strips: make([]api.Strip, 9)}, nil, -1, 0, api.ErrLarge},
		{api.Pattern{A: 1, C: 1}, 0, floor.Job{Strips: make([]api.Strip, 9)}, nil, -1, 0, api.ErrArg},
		{wall(), 0, floor.Job{Strips: make([]api.Strip, 9)}, nil, -1, 0, api.ErrLarge},
		{wall(), 1, floor.Job{}, nil, -1, 0, api.ErrArg},
		{wall(), 0, odd, nil, -1, 0, api.ErrArg},
		{wall(), -3, odd, nil, -1, 0, api.ErrArg},
		{wall(), 21, odd, nil, -1, 0, api.ErrArg},
		{wall(), math.MinInt, good, cuts, 0, 0, api.ErrArg},
		{wall(), math.MaxInt, good, cuts, 0, 0, api.ErrArg},
		{wall(), 4, good, nil, -1, 0, api.ErrMatch},
		{wall(), 1, good, cuts, 0, 0, api.ErrMatch},
		{wall(), 3, odd, nil, -1, 0, api.ErrMatch},
		{wall(), 3, odd, cuts, 0, 0, api.ErrMatch},
		{chess(), 3, good, cuts, 0, 0, api.ErrMatch},
		{chess(), 2, good, cuts, 0, 0, api.OK},
		// A pattern may be written with more cells than its least one.
		{api.Pattern{A: 4, B: 2, C: 1, Cells: []int{1, 0, 1, 0}}, 2, good, cuts, 0, 0, api.OK},
		{api.Pattern{A: 4, B: 2, C: 1, Cells: []int{1, 0, 1, 1}}, 2, good, cuts, 0, 0, api.ErrMatch},
		{wall(), 3, good, nil, -1, 0, api.ErrShort},
		{wall(), 3, good, []api.Cut{{Strip: 1}}, -1, 0, api.ErrNone},
		{wall(), 3, good, []api.Cut{{At: 1}}, -1, 0, api.ErrMatch},
		{wall(), 3, good, []api.Cut{{At: 6}}, -1, 0, api.ErrFit},
		{wall(), 3, good, []api.Cut{{}, {}}, -1, 0, api.ErrState},
		{wall(), 3, good, cuts, -1, 0, api.ErrNone},
		{wall(), 3, good, cuts, 3, 0, api.ErrNone},
		{wall(), 3, good, cuts, 0, -1, api.ErrNone},
		{wall(), 3, good, cuts, 0, 4, api.ErrNone},
		{wall(), 3, floor.Job{Repeat: 6}, nil, 0, 0, api.ErrNone},
	} {
		color, e := floor.Laid(x.p, x.width, x.j, x.cuts, x.x, x.y)
		if e != x.e || e != api.OK && color != 0 {
			t.Errorf("P8.9: Laid(%v, %d, %v, %v, %d, %d) is %v, %v, not %v", x.p, x.width, x.j, x.cuts, x.x, x.y, color, e, x.e)
		}
	}
	for _, n := range numbers() {
		for _, c := range []cell{{n, 1}, {1, n}, {n, n}, {n, -n}} {
			if color, e := floor.Laid(wall(), 3, good, cuts, c.x, c.y); color != 0 || e != api.ErrNone {
				t.Errorf("P8.9: Laid at %d, %d is %v, %v", c.x, c.y, color, e)
			}
		}
	}
}
