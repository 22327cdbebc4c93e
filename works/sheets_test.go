package works_test

import (
	"fmt"
	"math/rand"
	"slices"
	"strings"
	"testing"

	"linoleum/api"
	"linoleum/band"
	"linoleum/loft"
	"linoleum/roll"
	"linoleum/works"
)

func TestCalender(t *testing.T) {
	w := first(t)
	hasBand(t, w, "a", 6, run(100, 20, 7, 0))
	want := api.Lot{Kind: api.Mass, Mass: 20, Parts: []api.Part{{Lot: 5, Mass: 20}}}
	if lots := w.Lots(); len(lots) != 7 || !alike(lots[6:], []api.Lot{want}) {
		t.Errorf("P10.4: Lots is %v, with not %v", lots, want)
	}
	// The mass is a hundredth of the volume, rounded up.
	for i, x := range []struct{ thick, length, shade, mass int }{
		{1, 1, 0, 1}, {99, 1, 99, 1}, {1, 100, 7, 1}, {101, 1, 7, 2}, {1, 101, 7, 2}, {33, 3, 7, 1}, {1, api.MaxCut, 7, 3}, {api.MaxThick, 1, 7, 10}, {20, 5, 7, 1}, {21, 5, 7, 2}, {7, 43, 7, 4},
	} {
		name := fmt.Sprint("b", i)
		do(t, w, fmt.Sprint("calender ", name, " 5 ", x.thick, " ", x.length, " ", x.shade))
		hasBand(t, w, name, 7+i, run(x.length, x.thick, x.shade, 0))
		want := api.Lot{Kind: api.Mass, Mass: x.mass, Parts: []api.Part{{Lot: 5, Mass: x.mass}}}
		if lots := w.Lots(); !alike(lots[7+i:], []api.Lot{want}) {
			t.Errorf("P10.4: the lot of %s is %v, not %v", name, lots[7+i:], want)
		}
	}
	hasBalances(t, w, 250, -250, 0)
	if w.Stored() != 10 || !w.Audit() {
		t.Errorf("P10.4: %d is stored, not 10, or Audit is false", w.Stored())
	}
}

// The largest band takes 3000; a band's lot is of the kind Mass, so that another one can be made of it.
func TestCalenderLargeBands(t *testing.T) {
	w := made(t, works.Rules{Repeat: 1, Permit: 2400000}, "receive oil 4000 0", "make linoxyn 4000 0 4000", "make cement 4000 1 4000", "make mass 4000 2 4000", "calender a 3 1000 300 7")
	if lots := w.Lots(); lots[4].Mass != 3000 {
		t.Errorf("P10.4: the lot of the largest band is %v", lots[4])
	}
	refuses(t, w, api.ErrShort, "calender b 3 1000 101 7")
	do(t, w, "calender b 3 1000 100 7", "calender c 4 1000 300 7", "cut c 0", "cut a 0")
	hasBand(t, w, "b", 5, run(100, 1000, 7, 0))
}

func TestCalenderRefuses(t *testing.T) {
	w := first(t)
	refuses(t, w, api.ErrName, "calender a 5 20 100 7", "calender 1b 5 20 100 7", "calender abcdefghi 5 20 100 7", "calender 9 5 20 100 7", "calender a 99 0 0 100", "calender abcdefghi 4 0 0 100")
	refuses(t, w, api.ErrNone, "calender b 7 20 100 7", "calender b 1000000 20 100 7", "calender b 7 0 0 100")
	refuses(t, w, api.ErrRule, "calender b 0 20 100 7", "calender b 1 20 100 7", "calender b 2 20 100 7", "calender b 3 20 100 7", "calender b 4 20 100 7", "calender b 4 0 0 100")
	refuses(t, w, api.ErrArg, "calender b 5 20 0 7", "calender b 5 20 301 7", "calender b 5 0 100 7", "calender b 5 1001 100 7", "calender b 5 20 100 100", "calender b 5 1000000 1000000 1000000", "calender b 5 20 301 100")
	refuses(t, w, api.ErrShort, "calender b 5 181 100 7", "calender b 6 21 100 7", "calender b 5 1000 300 7")
	hasNoBand(t, w, "b")
	do(t, w, "calender b 5 180 100 7")
	hasBand(t, w, "b", 7, run(100, 180, 7, 0))
}

// The name of a band that was cut stays used, that of one that was refused is free.
func TestNamesOfBands(t *testing.T) {
	w := first(t, "calender abcdefgh 5 20 1 7", "cut abcdefgh 0", "cut a 0")
	refuses(t, w, api.ErrName, "calender a 5 20 100 7", "calender abcdefgh 5 20 1 7")
	refuses(t, w, api.ErrNone, "turn a", "cut a 0", "cut abcdefgh 0", "flaw a 0 1 1", "press a 0 1 1", "hang a 1 0")
	refuses(t, w, api.ErrArg, "calender c 5 0 1 7")
	do(t, w, "calender c 5 20 1 7")
}

func TestChangesOfBands(t *testing.T) {
	w := first(t)
	for _, x := range []struct {
		text string
		want []api.Run
	}{
		{"flaw a 0 0 15", []api.Run{run(100, 20, 7, 0)}},
		{"flaw a 10 20 2", []api.Run{run(10, 20, 7, 0), run(10, 20, 7, 2), run(80, 20, 7, 0)}},
		{"press a 0 15 18", []api.Run{run(10, 18, 7, 0), run(5, 18, 7, 2), run(5, 20, 7, 2), run(80, 20, 7, 0)}},
		{"press a 0 100 19", []api.Run{run(10, 18, 7, 0), run(5, 18, 7, 2), run(5, 19, 7, 2), run(80, 19, 7, 0)}},
		{"turn a", []api.Run{run(80, 19, 7, 0), run(5, 19, 7, 2), run(5, 18, 7, 2), run(10, 18, 7, 0)}},
		{"flaw a 80 90 6", []api.Run{run(80, 19, 7, 0), run(5, 19, 7, 6), run(5, 18, 7, 6), run(10, 18, 7, 0)}},
		{"hang a 40 3", []api.Run{run(3, 19, 7, 0), run(1, 19, 7, 1), run(76, 19, 7, 0), run(3, 19, 7, 6), run(1, 19, 7, 7), run(1, 19, 7, 6), run(5, 18, 7, 6), run(10, 18, 7, 0)}},
		{"press a 0 100 1000", []api.Run{run(3, 19, 7, 0), run(1, 19, 7, 1), run(76, 19, 7, 0), run(3, 19, 7, 6), run(1, 19, 7, 7), run(1, 19, 7, 6), run(5, 18, 7, 6), run(10, 18, 7, 0)}},
		{"flaw a 0 100 15", []api.Run{run(85, 19, 7, 15), run(15, 18, 7, 15)}},
		{"press a 0 100 1", []api.Run{run(100, 1, 7, 15)}},
		{"hang a 1000 1999", []api.Run{run(100, 1, 7, 15)}},
	} {
		do(t, w, x.text)
		hasBand(t, w, "a", 6, x.want...)
	}
	if !w.Audit() {
		t.Errorf("P10.10: Audit is false")
	}
}

func TestChangesOfBandsRefuse(t *testing.T) {
	w := first(t, "calender b 5 20 50 7")
	refuses(t, w, api.ErrNone, "flaw c 0 1 1", "press c 0 1 1", "hang c 1 0", "turn c", "flaw c 2 1 16", "press c 2 1 0", "hang c 0 0")
	refuses(t, w, api.ErrArg, "flaw a 0 101 1", "flaw a 5 4 1", "flaw a 0 1 16", "flaw a 101 101 1", "flaw b 0 51 1",
		"press a 0 101 9", "press a 5 4 9", "press a 0 1 0", "press a 0 1 1001", "press b 0 51 1",
		"hang a 0 0", "hang a 5 10", "hang a 1001 0", "hang a 1000 2000")
	do(t, w, "flaw a 100 100 1", "press a 100 100 1", "hang a 1000 0", "hang a 5 9", "flaw b 0 50 1")
	// 100 places with a mark at every other one would be 100 runs.
	refuses(t, w, api.ErrLarge, "hang a 1 0", "hang a 2 1")
	do(t, w, "hang b 1 0", "flaw a 0 100 1", "hang a 1 0")
	hasBand(t, w, "a", 6, run(100, 20, 7, 1))
	for i := range 20 {
		at := fmt.Sprint(" ", 2*i, " ", 2*i+1, " ")
		do(t, w, "flaw a"+at+"2")
	}
	refuses(t, w, api.ErrLarge, "flaw a 98 99 2", "press a 98 99 1")
}

// Orders on bands are the functions of the chapters before.
func TestChangesAsFunctions(t *testing.T) {
	random := rand.New(rand.NewSource(1003))
	for range 40 {
		w := first(t)
		b, _, _ := w.Band("a")
		for range 12 {
			from, n := random.Intn(101), random.Intn(17)
			to := from + random.Intn(102-from)
			after, e := band.Reverse(b)
			text := "turn a"
			switch random.Intn(4) {
			case 0:
				after, e = band.Flaw(b, from, to, n)
				text = fmt.Sprint("flaw a ", from, " ", to, " ", n)
			case 1:
				after, e = band.Press(b, from, to, n)
				text = fmt.Sprint("press a ", from, " ", to, " ", n)
			case 2:
				after, e = loft.Chalk(b, loft.Hanging{Drop: n, Shift: from / 4})
				text = fmt.Sprint("hang a ", n, " ", from/4)
			}
			if got := w.Do(text); got != e {
				t.Fatalf("P10.5: Do(%q) with %v is %v, not %v", text, b, got, e)
			}
			if e == api.OK {
				b = after
			}
			hasBand(t, w, "a", 6, b...)
		}
	}
}

func TestCut(t *testing.T) {
	w := first(t, "flaw a 5 6 4", "cut a 4")
	hasNoBand(t, w, "a")
	// The flaw leaves the places from 6 to 99; where the two pieces begin is free.
	rolls := w.Rolls()
	if len(rolls) != 2 {
		t.Fatalf("P10.6: Rolls is %v", rolls)
	}
	cutting, _, _ := roll.Best([]api.Run{run(5, 20, 7, 0), run(1, 20, 7, 4), run(94, 20, 7, 0)}, rules().Articles)
	for i, x := range cutting {
		want := works.Goods{Number: i, Lot: 6, Phase: (4 + x.From) % 6, Band: []api.Run{run(40, 20, 7, 0)}, Price: 300, State: works.InStock}
		if !alike(rolls[i:i+1], []works.Goods{want}) {
			t.Errorf("P10.6: the roll %d is %v, not %v", i, rolls[i], want)
		}
	}
	do(t, w, "calender b 5 22 60 99", "press b 0 30 19", "cut b 0")
	if rolls := w.Rolls(); len(rolls) != 3 || rolls[2].Number != 2 || rolls[2].Lot != 7 || len(rolls[2].Band) != 2 {
		t.Errorf("P10.6: Rolls is %v", w.Rolls())
	}
	hasBalances(t, w, 250, -250, 0)
}

func TestCutRefuses(t *testing.T) {
	w := first(t)
	refuses(t, w, api.ErrNone, "cut b 0", "cut b 6")
	refuses(t, w, api.ErrArg, "cut a 6", "cut a 7", "cut a 1000000")
	do(t, w, "cut a 5")
	refuses(t, w, api.ErrNone, "cut a 0", "cut a 6")
}

// A band of which no article can be cut is no more, too.
func TestCutOfWaste(t *testing.T) {
	for _, spoil := range []string{"press a 0 100 17", "flaw a 0 100 8", "hang a 15 10"} {
		w := first(t, spoil, "cut a 0")
		hasNoBand(t, w, "a")
		if len(w.Rolls()) != 0 || !w.Audit() || strings.Count(w.Book(), "\n") != 9 {
			t.Errorf("P10.6: after %q, Rolls is %v", spoil, w.Rolls())
		}
		refuses(t, w, api.ErrName, "calender a 5 20 100 7")
		do(t, w, "calender b 5 20 40 7", "cut b 0")
		if rolls := w.Rolls(); len(rolls) != 1 || rolls[0].Number != 0 || rolls[0].Lot != 7 {
			t.Errorf("P10.6: Rolls is %v", rolls)
		}
	}
	r := rules()
	r.Articles = nil
	w := made(t, r, append(firstOrders(), "cut a 0")...)
	if len(w.Rolls()) != 0 || len(w.Bands()) != 0 {
		t.Errorf("P10.6: without articles, Rolls is %v and Bands %v", w.Rolls(), w.Bands())
	}
}

// S2: the rolls and the waste, in order, are the band; and the rolls are worth what the best cutting is.
func TestCutOfRandomBands(t *testing.T) {
	random := rand.New(rand.NewSource(1004))
	rolls := 0
	for range 300 {
		r := randomRules(random)
		r.Permit = 300
		w := made(t, r, firstOrders()...)
		for range random.Intn(6) {
			w.Do(fmt.Sprint(pick(random, "flaw", "press"), " a ", random.Intn(100), " ", random.Intn(101), " ", random.Intn(16)))
		}
		b, _, _ := w.Band("a")
		phase := random.Intn(r.Repeat)
		do(t, w, fmt.Sprint("cut a ", phase))
		cutting, value, _ := roll.Best(b, r.Articles)
		waste, _ := roll.Waste(b, r.Articles, cutting)
		spans := slices.Clone(waste)
		sum := 0
		for i, g := range w.Rolls() {
			from := cutting[i].From
			spans = append(spans, api.Span{From: from, To: from + r.Articles[g.Article].Length})
			sum += g.Price
			piece, _ := band.Slice(b, from, from+r.Articles[g.Article].Length)
			want := works.Goods{Number: i, Lot: 6, Phase: (phase + from) % r.Repeat, Article: cutting[i].Article, Band: piece, Price: r.Articles[g.Article].Price, State: works.InStock}
			if !alike([]works.Goods{g}, []works.Goods{want}) {
				t.Fatalf("P10.6: the roll %v of %v is not %v", g, b, want)
			}
		}
		rolls += len(w.Rolls())
		slices.SortFunc(spans, func(a, b api.Span) int { return a.From - b.From })
		end := 0
		for _, s := range spans {
			if s.From != end {
				t.Fatalf("S2: the rolls and the waste of %v are %v", b, spans)
			}
			end = s.To
		}
		if end != 100 || sum != value || len(w.Rolls()) != len(cutting) {
			t.Fatalf("P10.6: the rolls of %v are worth %d, not %d, and end at %d", b, sum, value, end)
		}
	}
	if rolls < 1000 {
		t.Errorf("P10.6: only %d rolls were cut", rolls)
	}
}
