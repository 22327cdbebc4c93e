package band_test

import (
	"math"
	"slices"
	"testing"

	"linoleum/api"
	"linoleum/band"
)

// holds is P2.5 bit by bit; a number below 0 has in two's complement the bits that its complement has not.
func holds(q api.Query, m api.Mark) bool {
	for bit := range 64 {
		if m.Flaw>>bit&1 == 1 && q.Flaws>>bit&1 == 0 {
			return false
		}
	}
	return q.Least <= m.Thick && m.Thick <= q.Most && (q.Shade == -1 || q.Shade == m.Shade)
}

func TestHolds(t *testing.T) {
	list := []int{-2, -1, 0, 1, 2, 3, 6, 15, 16, math.MinInt, math.MaxInt}
	for _, thick := range list {
		for _, least := range list {
			for _, most := range list {
				q := api.Query{Least: least, Most: most, Shade: -1, Flaws: 4}
				m := api.Mark{Thick: thick, Shade: 7, Flaw: 4}
				if got := band.Holds(q, m); got != holds(q, m) {
					t.Errorf("P2.5: Holds(%v, %v) is %v", q, m, got)
				}
			}
		}
	}
	for _, shade := range list {
		for _, wanted := range list {
			for _, flaw := range list {
				for _, flaws := range list {
					q := api.Query{Least: 5, Most: 5, Shade: wanted, Flaws: flaws}
					m := api.Mark{Thick: 5, Shade: shade, Flaw: flaw}
					if got := band.Holds(q, m); got != holds(q, m) {
						t.Errorf("P2.5: Holds(%v, %v) is %v", q, m, got)
					}
				}
			}
		}
	}
	for _, x := range []struct {
		q    api.Query
		m    api.Mark
		want bool
	}{
		{api.Query{Least: 5, Most: 9, Shade: 3, Flaws: 6}, api.Mark{Thick: 5, Shade: 3, Flaw: 6}, true},
		{api.Query{Least: 5, Most: 9, Shade: 3, Flaws: 5}, api.Mark{Thick: 5, Shade: 3, Flaw: 6}, false},
		{api.Query{Least: 5, Most: 9, Shade: -1}, api.Mark{Thick: 9, Shade: 3}, true},
		{api.Query{Least: 5, Most: 9, Shade: -2}, api.Mark{Thick: 9, Shade: 3}, false},
		{api.Query{Least: 5, Most: 9, Shade: -2}, api.Mark{Thick: 9, Shade: -2}, true},
		{api.Query{Least: 9, Most: 5, Shade: -1}, api.Mark{Thick: 7}, false},
		{api.Query{Most: 9, Flaws: -2}, api.Mark{Flaw: -4}, true},
		{api.Query{Most: 9, Flaws: -4}, api.Mark{Flaw: -2}, false},
		{api.Query{Most: 9, Flaws: math.MaxInt}, api.Mark{Flaw: -1}, false},
	} {
		if got := band.Holds(x.q, x.m); got != x.want {
			t.Errorf("P2.5: Holds(%v, %v) is %v", x.q, x.m, got)
		}
	}
}

func queries() []api.Query {
	var list []api.Query
	for _, least := range []int{math.MinInt, 0, 1, 2, 3} {
		for _, most := range []int{0, 1, 2, math.MaxInt} {
			for _, shade := range []int{-2, -1, 0, 1} {
				for _, flaws := range []int{0, 1, 2, -1, math.MinInt} {
					list = append(list, api.Query{Least: least, Most: most, Shade: shade, Flaws: flaws})
				}
			}
		}
	}
	return list
}

// meeting returns the spans of the places that meet a query, each as long as possible, and how many places these are.
func meeting(marks []api.Mark, q api.Query) ([]api.Span, int) {
	var list []api.Span
	count := 0
	for i, m := range marks {
		if !holds(q, m) {
			continue
		}
		if i == 0 || !holds(q, marks[i-1]) {
			list = append(list, api.Span{From: i})
		}
		list[len(list)-1].To = i + 1
		count++
	}
	return list, count
}

func TestWhereAndCount(t *testing.T) {
	for _, b := range cases() {
		for _, q := range queries() {
			want, count := meeting(spell(b), q)
			if got, e := band.Where(b, q); !slices.Equal(got, want) || e != api.OK {
				t.Errorf("P2.5: Where(%v, %v) is %v, %v, not %v", b, q, got, e, want)
			}
			if got, e := band.Count(b, q); got != count || e != api.OK {
				t.Errorf("P2.5: Count(%v, %v) is %v, %v, not %v", b, q, got, e, count)
			}
		}
	}
	flawed, _ := band.Flaw(example(), 140, 160, api.PoleMark)
	q := api.Query{Least: 20, Most: 22, Shade: -1}
	if got, e := band.Where(flawed, q); !slices.Equal(got, []api.Span{{From: 0, To: 140}}) || e != api.OK {
		t.Errorf("P2.5: chapter 2, example 3: Where is %v, %v", got, e)
	}
	if got, e := band.Count(flawed, q); got != 140 || e != api.OK {
		t.Errorf("P2.5: chapter 2, example 3: Count is %v, %v", got, e)
	}
}

func TestVolume(t *testing.T) {
	for _, b := range cases() {
		want := 0
		for _, m := range spell(b) {
			want += m.Thick
		}
		if got, e := band.Volume(b); got != want || e != api.OK {
			t.Errorf("P2.5: Volume(%v) is %v, %v, not %v", b, got, e, want)
		}
	}
	if got, e := band.Volume([]api.Run{run(api.MaxLength, api.MaxThick, 0)}); got != 1000000000 || e != api.OK {
		t.Errorf("P2.5: the greatest volume is %v, %v", got, e)
	}
}

func TestAgree(t *testing.T) {
	for _, a := range bands(12, 150) {
		for _, b := range append(bands(13, 150), a) {
			left, right := spell(a), spell(b)
			want := 0
			for want < min(len(left), len(right)) && left[want] == right[want] {
				want++
			}
			if got, e := band.Agree(a, b); got != want || e != api.OK {
				t.Errorf("P2.6: Agree(%v, %v) is %v, %v, not %v", a, b, got, e, want)
			}
		}
	}
	// The same places in other runs, up to the end of the shorter band.
	if got, e := band.Agree(example(), []api.Run{run(150, 20, 0), run(10, 25, 0), run(15, 25, 0)}); got != 175 || e != api.OK {
		t.Errorf("P2.6: Agree is %v, %v", got, e)
	}
}

func find(b, piece []api.Mark) (int, bool) {
	for p := 0; p+len(piece) <= len(b); p++ {
		if slices.Equal(b[p:p+len(piece)], piece) {
			return p, true
		}
	}
	return 0, false
}

func TestFind(t *testing.T) {
	for _, b := range bands(14, 150) {
		for _, piece := range append(bands(15, 150), b) {
			at, is := find(spell(b), spell(piece))
			if got, found, e := band.Find(b, piece); got != at || found != is || e != api.OK {
				t.Errorf("P2.6: Find(%v, %v) is %v, %v, %v, not %v, %v", b, piece, got, found, e, at, is)
			}
		}
	}
	// Each piece of a band occurs in it, there or before.
	for _, b := range bands(16, 60) {
		marks := spell(b)
		for from := range marks {
			for to := from; to <= len(marks); to++ {
				at, _ := find(marks, marks[from:to])
				if got, found, e := band.Find(b, runs(marks[from:to])); got != at || !found || e != api.OK {
					t.Errorf("P2.6: Find of the places %d to %d of %v is %v, %v, %v, not %v", from, to-1, b, got, found, e, at)
				}
			}
		}
	}
}

func TestFindInLongBands(t *testing.T) {
	long := []api.Run{run(400000, 1, 0), run(300000, 2, 0), run(100000, 1, 0), run(200000, 2, 0)}
	for _, x := range []struct {
		piece []api.Run
		at    int
		found bool
	}{
		{nil, 0, true},
		{[]api.Run{run(1, 2, 0)}, 400000, true},
		{[]api.Run{run(300001, 2, 0)}, 0, false},
		{[]api.Run{run(100001, 1, 0), run(200000, 2, 0)}, 299999, true},
		{[]api.Run{run(1, 2, 0), run(100000, 1, 0), run(200000, 2, 0)}, 699999, true},
		{[]api.Run{run(1, 2, 0), run(100000, 1, 0), run(200001, 2, 0)}, 0, false},
		{[]api.Run{run(1, 2, 0), run(99999, 1, 0), run(1, 2, 0)}, 0, false},
		{[]api.Run{run(400001, 1, 0), run(1, 2, 0)}, 0, false},
		{[]api.Run{run(200000, 1, 0), run(200000, 1, 0), run(300000, 2, 0)}, 0, true},
		{long, 0, true},
	} {
		if at, found, e := band.Find(long, x.piece); at != x.at || found != x.found || e != api.OK {
			t.Errorf("P2.6: Find(%v) is %v, %v, %v", x.piece, at, found, e)
		}
	}
	if at, found, e := band.Find(nil, []api.Run{run(1, 1, 0)}); at != 0 || found || e != api.OK {
		t.Error("P2.6: Find in the empty band:", at, found, e)
	}
	if at, found, e := band.Find(nil, nil); at != 0 || !found || e != api.OK {
		t.Error("P2.6: Find of nothing in the empty band:", at, found, e)
	}
}

func TestPlaces(t *testing.T) {
	for _, b := range cases() {
		marks := spell(b)
		var want []int
		for i := range marks {
			if i > 0 && marks[i] != marks[i-1] {
				want = append(want, i)
			}
		}
		if got, e := band.Places(b); !slices.Equal(got, want) || e != api.OK {
			t.Errorf("P2.6: Places(%v) is %v, %v, not %v", b, got, e, want)
		}
	}
	if got, e := band.Places(example()); !slices.Equal(got, []int{150}) || e != api.OK {
		t.Errorf("P2.6: chapter 2, example 1: Places is %v, %v", got, e)
	}
}
