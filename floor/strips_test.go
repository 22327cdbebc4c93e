package floor_test

import (
	"math"
	"math/rand"
	"slices"
	"testing"

	"linoleum/api"
	"linoleum/floor"
)

// border returns the left border of the strip that has the cells in the column x.
func border(x, width, offset int) int {
	left := offset
	for left > x {
		left -= width
	}
	for left+width <= x {
		left += width
	}
	return left
}

// stripsOf is P8.2 cell by cell.
func stripsOf(r api.Room, width, offset int) []api.Strip {
	found := map[int]api.Strip{}
	for c := range cellsOf(r.Rects) {
		x := border(c.x, width, offset)
		s, ok := found[x]
		if !ok {
			s = api.Strip{X: x, From: c.y, To: c.y + 1}
		}
		s.From, s.To = min(s.From, c.y), max(s.To, c.y+1)
		found[x] = s
	}
	var list []api.Strip
	for x := -width; x < 2*api.MaxSide; x++ {
		if s, ok := found[x]; ok {
			list = append(list, s)
		}
	}
	return list
}

// seamsOf is P8.2 cell by cell.
func seamsOf(r api.Room, width, offset int) []int {
	cells := cellsOf(r.Rects)
	var list []int
	for c := range cells {
		if cells[cell{c.x - 1, c.y}] > 0 && border(c.x, width, offset) == c.x {
			list = append(list, c.x)
		}
	}
	slices.Sort(list)
	return slices.Compact(list)
}

// inDoorOf is P8.2, asked of each place of each door.
func inDoorOf(r api.Room, width, offset int) bool {
	cells := cellsOf(r.Rects)
	for _, d := range r.Doors {
		for x := d.X1 + 1; x < d.X2; x++ {
			for _, y := range []int{d.Y, d.Y - 1} {
				if cells[cell{x - 1, y}] > 0 && cells[cell{x, y}] > 0 && border(x, width, offset) == x {
					return true
				}
			}
		}
	}
	return false
}

// bestOf is P8.3 word by word.
func bestOf(r api.Room, width int) (int, int, bool) {
	best, least, found := 0, 0, false
	for offset := width - 1; offset >= 0; offset-- {
		if inDoorOf(r, width, offset) {
			continue
		}
		sum := 0
		for _, s := range stripsOf(r, width, offset) {
			sum += s.To - s.From
		}
		if !found || sum <= least {
			best, least, found = offset, sum, true
		}
	}
	return best, least, found
}

func TestStripsSeamsAndDoors(t *testing.T) {
	count := map[bool]int{}
	for i, r := range cases() {
		for width := 1; width <= 20; width++ {
			for offset := range width {
				if i >= 60 && offset%3 != 0 {
					continue // the cells of large rooms are many
				}
				want := stripsOf(r, width, offset)
				if l, e := floor.Strips(r, width, offset); !slices.Equal(l, want) || e != api.OK {
					t.Errorf("P8.2: Strips(%v, %d, %d) is %v, %v, not %v", r, width, offset, l, e, want)
				}
				wantSeams := seamsOf(r, width, offset)
				if l, e := floor.Seams(r, width, offset); !slices.Equal(l, wantSeams) || e != api.OK {
					t.Errorf("P8.2: Seams(%v, %d, %d) is %v, %v, not %v", r, width, offset, l, e, wantSeams)
				}
				wantDoor := inDoorOf(r, width, offset)
				count[wantDoor]++
				if is, e := floor.InDoor(r, width, offset); is != wantDoor || e != api.OK {
					t.Errorf("P8.2: InDoor(%v, %d, %d) is %v, %v, not %v", r, width, offset, is, e, wantDoor)
				}
			}
		}
	}
	if count[true] < 500 || count[false] < 500 {
		t.Errorf("P8.2: the rooms do not cover the answers: %v", count)
	}
}

func TestStripsExamples(t *testing.T) {
	for _, x := range []struct {
		r             api.Room
		width, offset int
		want          []api.Strip
		seams         []int
	}{
		{hall(), 4, 0, []api.Strip{{X: 0, To: 8}, {X: 4, To: 8}, {X: 8, To: 8}}, []int{4, 8}},
		{hall(), 4, 3, []api.Strip{{X: -1, To: 8}, {X: 3, To: 8}, {X: 7, To: 8}}, []int{3, 7}},
		{hall(), 5, 0, []api.Strip{{X: 0, To: 8}, {X: 5, To: 8}}, []int{5}},
		{hall(), 20, 0, []api.Strip{{X: 0, To: 8}}, nil},
		{hall(), 20, 10, []api.Strip{{X: -10, To: 8}}, nil},
		{hall(), 20, 9, []api.Strip{{X: -11, To: 8}, {X: 9, To: 8}}, []int{9}},
		{bent(), 2, 0, []api.Strip{{X: 0, To: 4}, {X: 2, To: 9}, {X: 4, To: 9}}, []int{2, 4}},
		// A strip goes over what is not in the room; between the rooms there is none.
		{parted(), 4, 3, []api.Strip{{X: 3, From: 1, To: 9}, {X: 11, From: 4, To: 5}}, nil},
		{parted(), 3, 0, []api.Strip{{X: 3, From: 1, To: 9}, {X: 6, From: 7, To: 9}, {X: 12, From: 4, To: 5}}, []int{6}},
		{api.Room{Rects: []api.Rect{{X: 2, Y: 2, W: 2, H: 1}, {X: 4, Y: 3, W: 2, H: 1}}}, 2, 0, []api.Strip{{X: 2, From: 2, To: 3}, {X: 4, From: 3, To: 4}}, nil},
		{api.Room{Rects: []api.Rect{{X: 59, Y: 59, W: 1, H: 1}}}, 20, 0, []api.Strip{{X: 40, From: 59, To: 60}}, nil},
		{api.Room{Rects: []api.Rect{{W: 1, H: 1}}}, 20, 1, []api.Strip{{X: -19, To: 1}}, nil},
	} {
		if l, e := floor.Strips(x.r, x.width, x.offset); !slices.Equal(l, x.want) || e != api.OK {
			t.Errorf("P8.2: Strips(%v, %d, %d) is %v, %v, not %v", x.r, x.width, x.offset, l, e, x.want)
		}
		if l, e := floor.Seams(x.r, x.width, x.offset); !slices.Equal(l, x.seams) || e != api.OK {
			t.Errorf("P8.2: Seams(%v, %d, %d) is %v, %v, not %v", x.r, x.width, x.offset, l, e, x.seams)
		}
	}
}

func TestInDoorExamples(t *testing.T) {
	for _, x := range []struct {
		door          api.Door
		width, offset int
		want          bool
	}{
		// The only seam of this width is at 4; the hall reaches from 0 to 8.
		{api.Door{X1: 3, X2: 5}, 10, 4, true},
		{api.Door{X1: 4, X2: 5}, 10, 4, false},
		{api.Door{X1: 3, X2: 4}, 10, 4, false},
		{api.Door{X1: 0, X2: 60}, 10, 4, true},
		{api.Door{X1: 3, X2: 5, Y: 5}, 10, 4, true},
		{api.Door{X1: 3, X2: 5, Y: 7}, 10, 4, true},
		{api.Door{X1: 3, X2: 5, Y: 8}, 10, 4, true},
		{api.Door{X1: 3, X2: 5, Y: 9}, 10, 4, false},
		{api.Door{X1: 5, X2: 60}, 10, 4, false},
		// The borders of the hall are no seams.
		{api.Door{X1: 0, X2: 60}, 10, 0, false},
	} {
		r := hall()
		r.Doors = []api.Door{{X1: 20, X2: 30}, x.door}
		if is, e := floor.InDoor(r, x.width, x.offset); is != x.want || e != api.OK {
			t.Errorf("P8.2: InDoor with the door %v and the width %d, %d is %v, %v", x.door, x.width, x.offset, is, e)
		}
	}
	// A seam at another height than that of the door is not in the doorway, and neither are cells of different heights.
	apart := api.Room{Rects: []api.Rect{{X: 0, Y: 2, W: 4, H: 2}, {X: 4, Y: 3, W: 4, H: 2}}}
	for y, want := range []bool{false, false, false, true, true, false} {
		apart.Doors = []api.Door{{X1: 3, X2: 5, Y: y}}
		if is, e := floor.InDoor(apart, 4, 0); is != want || e != api.OK {
			t.Errorf("P8.2: InDoor with a door at the height %d is %v, %v", y, is, e)
		}
	}
}

func TestBestOffset(t *testing.T) {
	count := map[bool]int{}
	for i, r := range cases() {
		for width := 1; width <= 20; width++ {
			if i >= 60 && width%5 != 0 {
				continue // the cells of large rooms are many
			}
			want, sum, is := bestOf(r, width)
			count[is]++
			if offset, length, found, e := floor.BestOffset(r, width); offset != want || length != sum || found != is || e != api.OK {
				t.Errorf("P8.3: BestOffset(%v, %d) is %d, %d, %v, %v, not %d, %d, %v", r, width, offset, length, found, e, want, sum, is)
			}
		}
	}
	if count[true] < 200 || count[false] < 40 {
		t.Errorf("P8.3: the rooms do not cover the answers: %v", count)
	}
	for _, x := range []struct {
		r                     api.Room
		width, offset, length int
		found                 bool
	}{
		{hall(), 4, 0, 24, true},
		{hall(), 5, 0, 16, true},
		{hall(), 20, 0, 8, true},
		{hall(), 9, 0, 16, true},
		{bent(), 4, 1, 22, true},
		{bent(), 2, 0, 0, false},
		{largest(), 20, 0, 0, false},
		{api.Room{Rects: []api.Rect{{X: 3, W: 10, H: 8}}}, 5, 3, 16, true},
		{api.Room{Rects: []api.Rect{{X: 3, W: 10, H: 8}}, Doors: []api.Door{{X1: 7, X2: 9}}}, 5, 0, 24, true},
	} {
		if offset, length, found, e := floor.BestOffset(x.r, x.width); offset != x.offset || length != x.length || found != x.found || e != api.OK {
			t.Errorf("P8.3: BestOffset(%v, %d) is %d, %d, %v, %v", x.r, x.width, offset, length, found, e)
		}
	}
}

// coversOf is P8.3 cell by cell. The difference of two numbers is right as one without a sign, however large they are.
func coversOf(r api.Room, width int, l []api.Strip) bool {
	for c := range cellsOf(r.Rects) {
		count := 0
		for _, s := range l {
			if c.x >= s.X && uint(c.x)-uint(s.X) < uint(width) && c.y >= s.From && c.y < s.To {
				count++
			}
		}
		if count != 1 {
			return false
		}
	}
	return true
}

func expectCovers(t *testing.T, r api.Room, width int, l []api.Strip) bool {
	t.Helper()
	want := coversOf(r, width, l)
	if is, e := floor.Covers(r, width, l); is != want || e != api.OK {
		t.Errorf("P8.3: Covers(%v, %d, %v) is %v, %v, not %v", r, width, l, is, e, want)
	}
	return want
}

func TestCovers(t *testing.T) {
	random := rand.New(rand.NewSource(4))
	count := map[bool]int{}
	for _, r := range cases() {
		for range 10 {
			width := 1 + random.Intn(20)
			l, e := floor.Strips(r, width, random.Intn(width))
			if !expectCovers(t, r, width, l) || e != api.OK {
				t.Fatalf("P8.3: the strips %v of the width %d do not cover %v", l, width, r)
			}
			expectCovers(t, r, width, nil)
			for range 4 {
				near := slices.Clone(l)
				s := &near[random.Intn(len(near))]
				switch random.Intn(6) {
				case 0:
					s.X += random.Intn(3) - 1
				case 1:
					s.From += random.Intn(3) - 1
				case 2:
					s.To += random.Intn(3) - 1
				case 3:
					near = slices.DeleteFunc(near, func(o api.Strip) bool { return o.X == s.X })
				case 4: // two strips, one above the other
					middle := s.From + random.Intn(s.To-s.From+1)
					near = append(near, api.Strip{X: s.X, From: middle, To: s.To + 3})
					near[slices.Index(near, *s)].To = middle
				case 5: // a strip of any place, also over cells that are not in the room
					near = append(near, api.Strip{X: random.Intn(90) - 30, From: random.Intn(70) - 5, To: random.Intn(70) - 5})
				}
				random.Shuffle(len(near), func(i, k int) { near[i], near[k] = near[k], near[i] })
				count[expectCovers(t, r, width, near)]++
			}
		}
	}
	if count[true] < 500 || count[false] < 500 {
		t.Errorf("P8.3: the lists do not cover the answers: %v", count)
	}
}

// Strips may have any values.
func TestCoversFarAway(t *testing.T) {
	numbers := []int{math.MinInt, math.MinInt + 1, math.MinInt + 19, -21, -20, -19, 0, 8, 9, 10, 59, 60, math.MaxInt - 20, math.MaxInt - 19, math.MaxInt - 1, math.MaxInt}
	for _, x := range numbers {
		for _, from := range numbers {
			for _, to := range numbers {
				s := api.Strip{X: x, From: from, To: to}
				expectCovers(t, hall(), 20, []api.Strip{s})
				expectCovers(t, hall(), 10, []api.Strip{{To: 8}, s})
				expectCovers(t, largest(), 20, []api.Strip{{To: 60}, s, {X: 20, To: 60}, {X: 40, From: -5, To: 600}})
			}
		}
	}
	for _, x := range []struct {
		l    []api.Strip
		want bool
	}{
		{[]api.Strip{{From: math.MinInt, To: math.MaxInt}}, true},
		{[]api.Strip{{From: -1, To: 3}, {From: 3, To: 99}}, true},
		{[]api.Strip{{From: -1, To: 4}, {From: 3, To: 99}}, false},
		{[]api.Strip{{From: 0, To: 7}}, false},
		{[]api.Strip{{From: 1, To: 8}}, false},
		{[]api.Strip{{From: 0, To: 8}, {X: 10, To: 8}, {X: 10, To: 8}, {X: -10, To: 8}, {From: 8, To: 9}, {To: -8}}, true},
		{nil, false},
	} {
		if is, e := floor.Covers(hall(), 10, x.l); is != x.want || e != api.OK {
			t.Errorf("P8.3: Covers(.., 10, %v) is %v, %v", x.l, is, e)
		}
	}
}
