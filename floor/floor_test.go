package floor_test

import (
	"math"
	"math/rand"
	"reflect"
	"slices"
	"testing"

	"linoleum/api"
	"linoleum/floor"
)

// hall is the room of the chapter's example 1.
func hall() api.Room { return api.Room{Rects: []api.Rect{{W: 10, H: 8}}} }

// bent is a room of two rectangles with a doorway below the first one.
func bent() api.Room {
	return api.Room{Rects: []api.Rect{{W: 6, H: 4}, {X: 2, Y: 4, W: 4, H: 5}}, Doors: []api.Door{{X1: 1, X2: 5}}}
}

// parted is a room of two rectangles without a common border, one above the other, and a third one beside both.
func parted() api.Room {
	return api.Room{
		Rects: []api.Rect{{X: 3, Y: 1, W: 3, H: 2}, {X: 3, Y: 7, W: 4, H: 2}, {X: 12, Y: 4, W: 1, H: 1}},
		Doors: []api.Door{{X1: 3, X2: 6, Y: 3}, {X1: 0, X2: api.MaxSide, Y: 7}},
	}
}

// largest has all cells that a room may have.
func largest() api.Room {
	return api.Room{Rects: []api.Rect{{W: api.MaxSide, H: api.MaxSide}}, Doors: []api.Door{{X2: api.MaxSide, Y: api.MaxSide}}}
}

// crowded has as many rectangles and doors as there may be.
func crowded() api.Room {
	var r api.Room
	for i := range api.MaxRects {
		r.Rects = append(r.Rects, api.Rect{X: 7 * i, Y: 5 * (i % 3), W: 7, H: 11 + i})
	}
	for i := range api.MaxDoors {
		r.Doors = append(r.Doors, api.Door{X1: 10 * i, X2: 10*i + 4, Y: 5 * i})
	}
	return r
}

// rooms returns random rooms; their coordinates are at most that of a side.
func rooms(seed int64, count, side int) []api.Room {
	random := rand.New(rand.NewSource(seed))
	var list []api.Room
	for len(list) < count {
		var r api.Room
		for range 1 + random.Intn(api.MaxRects) {
			x, y := random.Intn(side), random.Intn(side)
			t := api.Rect{X: x, Y: y, W: 1 + random.Intn(side-x), H: 1 + random.Intn(side-y)}
			if random.Intn(3) > 0 {
				t.W, t.H = min(t.W, 3), min(t.H, 3)
			}
			if !haveCommon(append(slices.Clone(r.Rects), t)) {
				r.Rects = append(r.Rects, t)
			}
		}
		for range random.Intn(api.MaxDoors) {
			x := random.Intn(side)
			r.Doors = append(r.Doors, api.Door{X1: x, X2: x + 1 + random.Intn(side-x), Y: random.Intn(side + 1)})
		}
		list = append(list, r)
	}
	return list
}

// cases returns the rooms by which most functions are tested cell by cell.
func cases() []api.Room {
	return append(append(rooms(1, 60, 9), rooms(2, 10, api.MaxSide)...), hall(), bent(), parted(), largest(), crowded())
}

type cell struct{ x, y int }

// cellsOf returns how often a rectangle of the list has a cell.
func cellsOf(list []api.Rect) map[cell]int {
	cells := map[cell]int{}
	for _, t := range list {
		for x := t.X; x < t.X+t.W; x++ {
			for y := t.Y; y < t.Y+t.H; y++ {
				cells[cell{x, y}]++
			}
		}
	}
	return cells
}

func haveCommon(list []api.Rect) bool {
	for _, count := range cellsOf(list) {
		if count > 1 {
			return true
		}
	}
	return false
}

// numbers has numbers that are out of all limits of rooms and jobs.
func numbers() []int {
	return []int{-1, api.MaxCut + 1, math.MinInt, math.MinInt + 1, math.MaxInt, math.MaxInt - 1}
}

type badRoom struct {
	api.Room
	e api.Errno
}

// badRects has rectangles that are refused by themselves.
func badRects() []api.Rect {
	list := []api.Rect{
		{}, {W: 1}, {H: 1}, {X: 59, W: 2, H: 1}, {Y: 59, W: 1, H: 2}, {X: 60, W: 1, H: 1}, {Y: 60, W: 1, H: 1}, {W: 61, H: 1}, {W: 1, H: 61},
		{X: 1, W: 60, H: 1}, {Y: 1, W: 1, H: 60}, {X: math.MaxInt, W: math.MaxInt, H: 1}, {Y: math.MaxInt, W: 1, H: math.MaxInt}, {X: 30, W: math.MaxInt - 20, H: 1},
	}
	for _, n := range numbers() {
		list = append(list, api.Rect{X: n, W: 1, H: 1}, api.Rect{Y: n, W: 1, H: 1}, api.Rect{W: n, H: 1}, api.Rect{W: 1, H: n}, api.Rect{X: n, Y: n, W: n, H: n})
	}
	return list
}

// badDoors has doors that are refused by themselves.
func badDoors() []api.Door {
	list := []api.Door{{}, {X1: 2, X2: 2}, {X1: 3, X2: 2}, {X1: 59, X2: 61}, {X1: 60, X2: 60}, {X1: 60, X2: 61}, {X2: 1, Y: 61}}
	for _, n := range numbers() {
		list = append(list, api.Door{X1: n, X2: 5}, api.Door{X1: 5, X2: n}, api.Door{X2: 5, Y: n}, api.Door{X1: n, X2: n, Y: n})
	}
	return list
}

func badRooms() []badRoom {
	one, door := api.Rect{X: 4, Y: 4, W: 3, H: 3}, api.Door{X2: 1}
	twice := []api.Rect{one, {W: 1, H: 1}, one}
	tooMany := make([]api.Door, api.MaxDoors+1)
	var list []badRoom
	add := func(e api.Errno, rects []api.Rect, doors ...api.Door) {
		list = append(list, badRoom{api.Room{Rects: rects, Doors: doors}, e})
	}
	var row []api.Rect
	for i := range api.MaxRects + 1 {
		row = append(row, api.Rect{X: i, W: 1, H: 1})
	}
	// The errors of the rectangles come before those of the doors; each error is sought in the whole list.
	for _, doors := range [][]api.Door{nil, {door}, {{}}, tooMany} {
		add(api.ErrArg, nil, doors...)
		add(api.ErrArg, row, doors...)
		add(api.ErrArg, slices.Repeat([]api.Rect{one}, api.MaxRects+1), doors...)
		add(api.ErrArg, append(slices.Clone(twice), api.Rect{}), doors...)
		add(api.ErrOverlap, twice, doors...)
	}
	for _, t := range badRects() {
		add(api.ErrArg, []api.Rect{t})
		add(api.ErrArg, []api.Rect{one, t}, door)
		add(api.ErrArg, []api.Rect{t, one, one})
	}
	// Each of these has one common cell with the rectangle, or all.
	for _, t := range []api.Rect{{X: 2, Y: 2, W: 3, H: 3}, {X: 6, Y: 2, W: 3, H: 3}, {X: 2, Y: 6, W: 3, H: 3}, {X: 6, Y: 6, W: 3, H: 3}, {X: 5, Y: 5, W: 1, H: 1}, {W: 20, H: 20}, {Y: 5, W: 20, H: 1}, {X: 5, W: 1, H: 20}, one} {
		add(api.ErrOverlap, []api.Rect{one, t})
		add(api.ErrOverlap, []api.Rect{t, {X: 50, W: 1, H: 1}, one})
	}
	add(api.ErrLarge, []api.Rect{one}, tooMany...)
	add(api.ErrLarge, []api.Rect{one}, slices.Repeat([]api.Door{door}, api.MaxDoors+1)...)
	for _, d := range badDoors() {
		add(api.ErrArg, []api.Rect{one}, d)
		add(api.ErrArg, []api.Rect{one}, door, door, door, d)
		add(api.ErrArg, []api.Rect{one}, d, door)
	}
	return list
}

func TestValidate(t *testing.T) {
	for _, r := range cases() {
		if e := floor.Validate(r); e != api.OK {
			t.Errorf("P8.1: Validate(%v) is %v", r, e)
		}
	}
	good := []api.Rect{{X: 4, Y: 4, W: 3, H: 3}}
	// Rectangles that touch have no common cell.
	for _, x := range []api.Rect{{X: 1, Y: 4, W: 3, H: 3}, {X: 7, Y: 4, W: 3, H: 3}, {X: 4, Y: 1, W: 3, H: 3}, {X: 4, Y: 7, W: 3, H: 3}, {X: 7, Y: 7, W: 1, H: 1}, {X: 59, Y: 59, W: 1, H: 1}, {W: 60, H: 4}, {W: 4, H: 60}} {
		if e := floor.Validate(api.Room{Rects: append(slices.Clone(good), x)}); e != api.OK {
			t.Errorf("P8.1: Validate of %v beside %v is %v", x, good, e)
		}
	}
	// Doors may be anywhere, also twice in one place.
	for _, d := range []api.Door{{X2: 1}, {X2: 60}, {X1: 59, X2: 60, Y: 60}, {X1: 30, X2: 31, Y: 5}} {
		if e := floor.Validate(api.Room{Rects: good, Doors: slices.Repeat([]api.Door{d}, api.MaxDoors)}); e != api.OK {
			t.Errorf("P8.1: Validate with the door %v is %v", d, e)
		}
	}
	for _, x := range badRooms() {
		if e := floor.Validate(x.Room); e != x.e {
			t.Errorf("P8.1: Validate(%v) is %v, not %v", x.Room, e, x.e)
		}
	}
}

// The error of a pair of rectangles is that of their common cells.
func TestOverlap(t *testing.T) {
	random := rand.New(rand.NewSource(3))
	count := map[api.Errno]int{}
	for range 3000 {
		var r api.Room
		for range 1 + random.Intn(4) {
			r.Rects = append(r.Rects, api.Rect{X: random.Intn(8), Y: random.Intn(8), W: 1 + random.Intn(4), H: 1 + random.Intn(4)})
		}
		want := api.OK
		if haveCommon(r.Rects) {
			want = api.ErrOverlap
		}
		count[want]++
		if e := floor.Validate(r); e != want {
			t.Errorf("P8.1: Validate(%v) is %v, not %v", r, e, want)
		}
	}
	if count[api.OK] < 500 || count[api.ErrOverlap] < 500 {
		t.Errorf("P8.1: the rooms do not cover the answers: %v", count)
	}
}

func TestArea(t *testing.T) {
	for _, r := range cases() {
		if n, e := floor.Area(r); n != len(cellsOf(r.Rects)) || e != api.OK {
			t.Errorf("P8.1: Area(%v) is %v, %v, not %v", r, n, e, len(cellsOf(r.Rects)))
		}
	}
	for _, x := range []struct {
		r    api.Room
		area int
	}{{hall(), 80}, {bent(), 44}, {parted(), 15}, {largest(), 3600}} {
		if n, e := floor.Area(x.r); n != x.area || e != api.OK {
			t.Errorf("P8.1: Area(%v) is %v, %v, not %v", x.r, n, e, x.area)
		}
	}
}

func TestHas(t *testing.T) {
	far := append(numbers(), api.MaxSide, api.MaxSide+1)
	for _, r := range cases() {
		cells := cellsOf(r.Rects)
		for x := -2; x <= api.MaxSide+1; x++ {
			for y := -2; y <= api.MaxSide+1; y++ {
				if is, e := floor.Has(r, x, y); is != (cells[cell{x, y}] > 0) || e != api.OK {
					t.Errorf("P8.1: Has(%v, %d, %d) is %v, %v", r, x, y, is, e)
				}
			}
		}
		for _, n := range far {
			for _, c := range []cell{{n, 4}, {4, n}, {n, n}, {n, -n}, {-n, n}} {
				if is, e := floor.Has(r, c.x, c.y); is != (cells[c] > 0) || e != api.OK {
					t.Errorf("P8.1: Has(%v, %d, %d) is %v, %v", r, c.x, c.y, is, e)
				}
			}
		}
	}
}

// others has the arguments of a call beside the room.
type others struct {
	x, y, width, offset int
	l                   []api.Strip
}

// roomCalls returns, for each function with a room, one that reports whether all results but the error are zero values, and the error.
func roomCalls(r api.Room, o others) map[string]func() (bool, api.Errno) {
	type result = func() (bool, api.Errno)
	return map[string]result{
		"Area":   func() (bool, api.Errno) { n, e := floor.Area(r); return n == 0, e },
		"Has":    func() (bool, api.Errno) { is, e := floor.Has(r, o.x, o.y); return !is, e },
		"Strips": func() (bool, api.Errno) { l, e := floor.Strips(r, o.width, o.offset); return len(l) == 0, e },
		"Seams":  func() (bool, api.Errno) { l, e := floor.Seams(r, o.width, o.offset); return len(l) == 0, e },
		"InDoor": func() (bool, api.Errno) { is, e := floor.InDoor(r, o.width, o.offset); return !is, e },
		"BestOffset": func() (bool, api.Errno) {
			offset, length, found, e := floor.BestOffset(r, o.width)
			return offset == 0 && length == 0 && !found, e
		},
		"Covers": func() (bool, api.Errno) { is, e := floor.Covers(r, o.width, o.l); return !is, e },
	}
}

// The errors of the room come before those of the other arguments.
func TestErrorsOfRoomFirst(t *testing.T) {
	for _, x := range badRooms() {
		for _, o := range []others{{x: 4, y: 4, width: 4, l: []api.Strip{{To: 60}, {X: 4, To: 60}}}, {x: -1, width: 21, offset: -1}, {}} {
			for name, call := range roomCalls(x.Room, o) {
				if zero, e := call(); !zero || e != x.e {
					t.Errorf("P8.1, R2, R3: %s of %v with %v is %v, not %v, and all other results zero: %v", name, x.Room, o, e, x.e, zero)
				}
			}
		}
	}
}

// expectCalls calls the functions with a room: those named return OK, and all others ErrArg.
func expectCalls(t *testing.T, r api.Room, o others, right ...string) {
	t.Helper()
	for name, call := range roomCalls(r, o) {
		want := api.ErrArg
		if slices.Contains(right, name) {
			want = api.OK
		}
		if zero, e := call(); e != want || e != api.OK && !zero {
			t.Errorf("P8.2, P8.3: %s of %v with %v is %v, not %v, and all other results zero: %v", name, r, o, e, want, zero)
		}
	}
}

func TestErrorsOfWidthAndOffset(t *testing.T) {
	for _, r := range []api.Room{hall(), bent(), largest()} {
		for _, n := range append(numbers(), 0, 21) {
			for _, offset := range []int{0, 1, 20, n} {
				expectCalls(t, r, others{width: n, offset: offset}, "Area", "Has")
			}
		}
		for _, width := range []int{1, 4, 20} {
			for _, offset := range append(numbers(), width, width+1) {
				expectCalls(t, r, others{width: width, offset: offset}, "Area", "Has", "BestOffset", "Covers")
			}
			for _, offset := range []int{0, width / 2, width - 1} {
				expectCalls(t, r, others{width: width, offset: offset}, "Area", "Has", "BestOffset", "Covers", "Strips", "Seams", "InDoor")
			}
		}
	}
}

// roomResults returns what all functions return for a room.
func roomResults(r api.Room, l []api.Strip) []any {
	var list []any
	put := func(results ...any) { list = append(list, results...) }
	put(floor.Validate(r))
	put(two(floor.Area(r))...)
	put(two(floor.Has(r, 3, 3))...)
	for _, width := range []int{1, 4, 20} {
		put(two(floor.Strips(r, width, width-1))...)
		put(two(floor.Seams(r, width, width/2))...)
		put(two(floor.InDoor(r, width, width/2))...)
		put(two(floor.Covers(r, width, l))...)
		offset, length, found, e := floor.BestOffset(r, width)
		put(offset, length, found, e)
	}
	return list
}

func two[T any](a T, e api.Errno) []any { return []any{a, e} }

func TestMemoryAndEqualCallsOfRooms(t *testing.T) {
	for _, r := range cases() {
		l, _ := floor.Strips(r, 4, 1)
		kept := slices.Clone(l)
		same := api.Room{Rects: slices.Clone(r.Rects), Doors: slices.Clone(r.Doors)}
		first, second := roomResults(r, l), roomResults(same, kept)
		if !reflect.DeepEqual(first, second) {
			t.Errorf("R11: %v has the results %v and then %v", r, first, second)
		}
		for _, x := range first {
			switch list := x.(type) {
			case []api.Strip:
				clear(list)
			case []int:
				clear(list)
			}
		}
		if !slices.Equal(r.Rects, same.Rects) || !slices.Equal(r.Doors, same.Doors) || !slices.Equal(l, kept) {
			t.Errorf("R5: a call or a change of its results has changed an argument: %v, %v", r, l)
		}
		if third := roomResults(r, l); !reflect.DeepEqual(third, second) {
			t.Errorf("R5: %v has the results %v, and after a change of results %v", r, second, third)
		}
	}
}
