package works_test

import (
	"fmt"
	"math"
	"slices"
	"strings"
	"sync"
	"testing"

	"linoleum/api"
	"linoleum/book"
	"linoleum/works"
)

func TestNew(t *testing.T) {
	article := api.Article{Length: 1}
	for _, r := range []works.Rules{
		rules(), {Repeat: 1}, {Repeat: api.MaxCells, Permit: 2400000},
		{Repeat: 1, Articles: slices.Repeat([]api.Article{article}, api.MaxArticles)},
		{Repeat: 1, Articles: []api.Article{{Length: api.MaxCut, Price: api.MaxPrice, Query: api.Query{Least: math.MinInt, Shade: -9, Flaws: math.MaxInt}}}},
	} {
		w := newWorks(t, r)
		if len(w.Lots())+len(w.Bands())+len(w.Rolls())+w.Stored()+w.Balance("cash") != 0 || w.Book() != "" || !w.Audit() {
			t.Errorf("P10.1: a new works has something: %s", seen(w))
		}
	}
}

func TestNewRefuses(t *testing.T) {
	many := make([]api.Article, api.MaxArticles+1)
	long := []api.Article{{Length: 1}, {Length: api.MaxCut + 1}}
	for _, x := range []struct {
		r    works.Rules
		want api.Errno
	}{
		{works.Rules{Repeat: 1, Permit: -1}, api.ErrArg},
		{works.Rules{Repeat: 1, Permit: math.MinInt}, api.ErrArg},
		{works.Rules{Repeat: 1, Permit: 2400001}, api.ErrArg},
		{works.Rules{Repeat: 1, Permit: math.MaxInt}, api.ErrArg},
		{works.Rules{Repeat: 0}, api.ErrArg},
		{works.Rules{Repeat: -1}, api.ErrArg},
		{works.Rules{Repeat: api.MaxCells + 1}, api.ErrArg},
		{works.Rules{Repeat: 1, Articles: long}, api.ErrArg},
		{works.Rules{Repeat: 1, Articles: []api.Article{{Length: 0}}}, api.ErrArg},
		{works.Rules{Repeat: 1, Articles: []api.Article{{Length: 1, Price: -1}}}, api.ErrArg},
		{works.Rules{Repeat: 1, Articles: []api.Article{{Length: 1, Price: api.MaxPrice + 1}}}, api.ErrArg},
		{works.Rules{Repeat: 1, Articles: many}, api.ErrLarge},
		{works.Rules{Repeat: 0, Permit: -1, Articles: many}, api.ErrLarge},
	} {
		if w, e := works.New(x.r); w != nil || e != x.want {
			t.Errorf("P10.1: New(%v) is %v, not %v", x.r, e, x.want)
		}
		if w, n, e := works.Replay(x.r, "torn"); w != nil || n != 0 || e != x.want {
			t.Errorf("P10.11: Replay by %v is %v, %v, not %v", x.r, n, e, x.want)
		}
		if list, text, e := works.Run(x.r, []string{"receive oil 1 0"}); len(list) != 0 || text != "" || e != x.want {
			t.Errorf("P10.12: Run by %v is %v, %q, %v, not %v", x.r, list, text, e, x.want)
		}
	}
}

func TestNil(t *testing.T) {
	var w *works.Works
	for _, text := range []string{"receive oil 1 0", "turn", ""} {
		if e := w.Do(text); e != api.ErrArg {
			t.Errorf("P10: Do(%q) of nil is %v", text, e)
		}
	}
	if len(w.Lots())+len(w.Bands())+len(w.Rolls())+w.Stored()+w.Balance("cash")+len(w.Book()) != 0 || w.Audit() {
		t.Errorf("P10: a nil works has something")
	}
	if b, lot, e := w.Band("a"); len(b) != 0 || lot != 0 || e != api.ErrArg {
		t.Errorf("P10: Band of nil is %v, %v, %v", b, lot, e)
	}
	if rolls, e := w.Recall(0, api.Rat{Num: 1, Den: 1}); len(rolls) != 0 || e != api.ErrArg {
		t.Errorf("P10: Recall of nil is %v, %v", rolls, e)
	}
	if rolls, e := w.Recall(-1, api.Rat{}); len(rolls) != 0 || e != api.ErrArg {
		t.Errorf("P10: Recall of nil is %v, %v", rolls, e)
	}
}

// Nothing that a works takes or gives is shared with it (R5).
func TestMemory(t *testing.T) {
	r := rules()
	w := made(t, r, firstOrders()...)
	r.Articles[0].Length = 1
	do(t, w, "cut a 0", "calender b 5 20 50 7")
	if len(w.Rolls()) != 2 {
		t.Errorf("P10.1: the articles are those of the caller: %v", w.Rolls())
	}
	before := seen(w)
	for range 2 {
		lots, rolls, names := w.Lots(), w.Rolls(), w.Bands()
		b, _, _ := w.Band("b")
		lots[1].Parts[0].Mass, lots[0].Mass = 9, 9
		rolls[0].Band[0].Mark.Thick, rolls[1].State = 9, works.Returned
		names[0], b[0].Length = "z", 9
		if rolls[1].Band[0].Mark.Thick == 9 || lots[3].Parts[0].Mass == 9 {
			t.Errorf("R5: two parts of a result share memory")
		}
		_, _ = append(lots, api.Lot{}), append(rolls, works.Goods{})
	}
	if seen(w) != before || !w.Audit() {
		t.Errorf("R5: the works has changed from\n%s to\n%s", before, seen(w))
	}
}

func TestRecall(t *testing.T) {
	// The share of the oil 0 is 5/6 in the cement 3 and the mass 7, which is cement alone, and 5/12 in the mass 5.
	w := first(t, "make mass 20 3 20", "calender b 7 20 100 7", "cut b 0", "cut a 0", "calender c 5 20 40 7", "sell 0 5", "sell 1 5", "claim 1 shade 6")
	for _, x := range []struct {
		of, num, den int
		want         []int
	}{
		{0, 1, 1 << 20, []int{0, 1, 2, 3}},
		{0, 5, 12, []int{0, 1, 2, 3}},
		{0, 6, 13, []int{0, 1}},
		{0, 5, 6, []int{0, 1}},
		{0, 7, 8, nil},
		{1, 5, 12, []int{0, 1, 2, 3}},
		{2, 1, 6, []int{0, 1}},
		{3, 1, 1, []int{0, 1}},
		{4, 1, 1 << 20, []int{2, 3}},
		{4, 1, 2, []int{2, 3}},
		{4, 2, 3, nil},
		{5, 1, 1, []int{2, 3}},
		{7, 1, 1, []int{0, 1}},
		{8, 1, 1, []int{0, 1}}, // the lot of the band b itself
		{6, 1, 1, []int{2, 3}},
		{9, 1, 1 << 20, nil}, // the lot of c, which is not cut
		{0, 2, 1, nil},
	} {
		if got, e := w.Recall(x.of, api.Rat{Num: x.num, Den: x.den}); !slices.Equal(got, x.want) || e != api.OK {
			t.Errorf("P10.9: Recall(%d, %d/%d) is %v, %v, not %v", x.of, x.num, x.den, got, e, x.want)
		}
	}
	for _, of := range []int{-1, 10, math.MinInt, math.MaxInt} {
		if got, e := w.Recall(of, api.Rat{}); len(got) != 0 || e != api.ErrNone {
			t.Errorf("P10.9: Recall of no lot %d is %v, %v", of, got, e)
		}
	}
	for _, least := range []api.Rat{{}, {Num: 0, Den: 1}, {Num: -1, Den: 2}, {Num: 2, Den: 4}, {Num: 1, Den: 0}, {Num: 1, Den: 1<<20 + 1}} {
		if got, e := w.Recall(0, least); len(got) != 0 || e != api.ErrArg {
			t.Errorf("P10.9: Recall with %v is %v, %v", least, got, e)
		}
	}
	if got, e := newWorks(t, rules()).Recall(0, api.Rat{Num: 1, Den: 1}); len(got) != 0 || e != api.ErrNone {
		t.Errorf("P10.9: Recall without lots is %v, %v", got, e)
	}
}

func TestQuestions(t *testing.T) {
	w := first(t, "calender c 5 20 40 7", "calender b 5 20 40 7", "calender d 5 20 39 7")
	if names := w.Bands(); !slices.Equal(names, []string{"a", "c", "b", "d"}) {
		t.Errorf("P10.9: Bands is %v", names)
	}
	do(t, w, "cut c 0", "turn a", "cut d 0")
	if names := w.Bands(); !slices.Equal(names, []string{"a", "b"}) {
		t.Errorf("P10.9: Bands is %v", names)
	}
	for _, name := range []string{"", "c", "d", "e", "A", "a ", "1a", "abcdefghi", strings.Repeat("a", 1000000)} {
		hasNoBand(t, w, name)
	}
	hasBand(t, w, "b", 8, run(40, 20, 7, 0))
	for _, account := range []string{"", "Stock", "stock ", "goods", "a", "1", strings.Repeat("a", 1000000)} {
		if n := w.Balance(account); n != 0 {
			t.Errorf("P10.9: the balance of %.20q is %d", account, n)
		}
	}
	hasBalances(t, w, 250, -250, 0)
}

// Each roll can be sold once and claimed once, whoever asks; and whatever is asked in between, the works is that of one moment.
func TestGoroutines(t *testing.T) {
	const rolls, buyers = 20, 6
	r := rules()
	r.Articles[0].Length = 2
	w := made(t, r, append(firstOrders(), "cut a 0")...)
	var group sync.WaitGroup
	sold, returned := make([]int, buyers), make([]int, buyers)
	for i := range buyers {
		group.Go(func() {
			for n := range rolls {
				if w.Do(fmt.Sprint("sell ", n, " 3")) == api.OK {
					sold[i]++
				}
				if w.Do(fmt.Sprint("claim ", n, " shade 6")) == api.OK {
					returned[i]++
				}
				if !w.Audit() || w.Balance("stock") != 250 {
					t.Error("P10: a works between two moments")
				}
			}
		})
		group.Go(func() {
			for range rolls {
				lots, goods, names, stored := w.Lots(), w.Rolls(), w.Bands(), w.Stored()
				_, _, e := w.Band("a")
				recall, _ := w.Recall(0, api.Rat{Num: 1, Den: 3})
				if len(lots) != 7 || len(goods) != 50 || len(recall) != 50 || len(names) != 0 || stored != 10 || e != api.ErrNone || !book.IsWhole(w.Book()) {
					t.Error("P10: a works between two moments")
				}
			}
		})
	}
	group.Wait()
	sum, back := 0, 0
	for i := range buyers {
		sum += sold[i]
		back += returned[i]
	}
	if sum != rolls || back != rolls || strings.Count(w.Book(), "\n") != 8+2*rolls {
		t.Errorf("P10: %d rolls were sold and %d returned:\n%s", sum, back, w.Book())
	}
	hasBalances(t, w, 250, -250, 0)
}
