package roll_test

import (
	"math/rand"
	"reflect"
	"slices"
	"testing"

	"linoleum/api"
	"linoleum/band"
	"linoleum/roll"
)

// check is P7.3 word by word.
func (x job) check(cutting []api.Piece) api.Errno {
	for i, p := range cutting {
		if !x.fits(p) {
			return api.ErrFit
		}
		if i > 0 && p.From < x.end(cutting[i-1]) {
			return api.ErrOrder
		}
	}
	return api.OK
}

func (x job) end(p api.Piece) int { return p.From + x.l[p.Article].Length }

func (x job) value(cutting []api.Piece) int {
	sum := 0
	for _, p := range cutting {
		sum += x.l[p.Article].Price
	}
	return sum
}

// cuttings returns all cuttings of the places from `from` to `to` - 1, with waste anywhere.
func (x job) cuttings(from, to int) [][]api.Piece {
	if from >= to {
		return [][]api.Piece{nil}
	}
	list := x.cuttings(from+1, to)
	for n := range x.l {
		p := api.Piece{From: from, Article: n}
		if !x.fits(p) || x.end(p) > to {
			continue
		}
		for _, rest := range x.cuttings(x.end(p), to) {
			list = append(list, append([]api.Piece{p}, rest...))
		}
	}
	return list
}

// someCutting returns a random cutting.
func (x job) someCutting(random *rand.Rand) []api.Piece {
	var list []api.Piece
	for from := 0; from < len(spell(x.b)); {
		p := api.Piece{From: from, Article: random.Intn(len(x.l) + 1)}
		if !x.fits(p) {
			from++
			continue
		}
		list = append(list, p)
		from = x.end(p)
	}
	return list
}

func TestCheckAndValueOfPieces(t *testing.T) {
	random := rand.New(rand.NewSource(4))
	count := map[api.Errno]int{}
	for _, x := range jobs(5, 400, 14) {
		for range 40 {
			var cutting []api.Piece
			for range random.Intn(4) {
				cutting = append(cutting, api.Piece{From: random.Intn(len(spell(x.b))+2) - 1, Article: random.Intn(len(x.l) + 1)})
			}
			if random.Intn(2) == 0 {
				slices.SortFunc(cutting, func(a, b api.Piece) int { return a.From - b.From })
			}
			expectCheck(t, x, cutting)
			count[x.check(cutting)]++
		}
	}
	for _, e := range []api.Errno{api.OK, api.ErrFit, api.ErrOrder} {
		if count[e] < 100 {
			t.Errorf("P7.3: only %d cuttings have the error %v", count[e], e)
		}
	}
}

func expectCheck(t *testing.T, x job, cutting []api.Piece) {
	t.Helper()
	want, value := x.check(cutting), 0
	if want == api.OK {
		value = x.value(cutting)
	}
	if e := roll.Check(x.b, x.l, cutting); e != want {
		t.Errorf("P7.3: Check(%v, %v, %v) is %v, not %v", x.b, x.l, cutting, e, want)
	}
	if n, e := roll.Value(x.b, x.l, cutting); n != value || e != want {
		t.Errorf("P7.3: Value(%v, %v, %v) is %v, %v, not %v, %v", x.b, x.l, cutting, n, e, value, want)
	}
	if want == api.OK {
		return
	}
	if spans, e := roll.Waste(x.b, x.l, cutting); len(spans) != 0 || e != want {
		t.Errorf("P7.7: Waste(%v, %v, %v) is %v, %v, not %v", x.b, x.l, cutting, spans, e, want)
	}
	if records, e := roll.Records(x.b, x.l, cutting, -1, 0); len(records) != 0 || e != want {
		t.Errorf("P7.7: Records(%v, %v, %v) is %v, %v, not %v", x.b, x.l, cutting, records, e, want)
	}
}

func TestCheckAndValueOfCuttings(t *testing.T) {
	random := rand.New(rand.NewSource(6))
	for _, x := range cases() {
		cutting := x.someCutting(random)
		if x.check(cutting) != api.OK {
			t.Fatalf("%v is no cutting of %v", cutting, x)
		}
		expectCheck(t, x, cutting)
		expectCheck(t, x, nil)
		expectCheck(t, x, []api.Piece{})
	}
}

func TestCheckGoesOneByOne(t *testing.T) {
	x := flawed()
	for _, c := range []struct {
		cutting []api.Piece
		e       api.Errno
	}{
		{[]api.Piece{{From: 0}, {From: 5}}, api.OK},
		{[]api.Piece{{From: 0, Article: 1}, {From: 2, Article: 1}, {From: 5}}, api.OK},
		{[]api.Piece{{From: 1}, {From: 3, Article: 1}}, api.ErrFit},
		{[]api.Piece{{From: 0}, {From: 2, Article: 1}}, api.ErrOrder},
		{[]api.Piece{{From: 5}, {From: 0}}, api.ErrOrder},
		{[]api.Piece{{From: 0}, {From: 0}}, api.ErrOrder},
		// The first piece with an error decides; of its errors, ErrFit.
		{[]api.Piece{{From: 0}, {From: 0}, {From: 9}}, api.ErrOrder},
		{[]api.Piece{{From: 9}, {From: 0}, {From: 0}}, api.ErrFit},
		{[]api.Piece{{From: 5}, {From: 3}}, api.ErrFit},
		{[]api.Piece{{From: 5}, {From: 0, Article: 2}}, api.ErrFit},
		{[]api.Piece{{From: 5}, {From: 0, Article: -1}}, api.ErrFit},
		{[]api.Piece{{From: 5}, {From: -1}}, api.ErrFit},
	} {
		if x.check(c.cutting) != c.e {
			t.Errorf("the test's own check of %v is %v", c.cutting, x.check(c.cutting))
		}
		expectCheck(t, x, c.cutting)
	}
	for _, n := range numbers() {
		expectCheck(t, x, []api.Piece{{From: n}})
		expectCheck(t, x, []api.Piece{{Article: n}})
		expectCheck(t, x, []api.Piece{{From: 0}, {From: n, Article: n}})
	}
}

// greedy is P7.6 word by word.
func (x job) greedy() []api.Piece {
	var list []api.Piece
	for from := 0; from < len(spell(x.b)); {
		taken := -1
		for n := range x.l {
			if x.fits(api.Piece{From: from, Article: n}) && (taken < 0 || x.l[n].Price > x.l[taken].Price) {
				taken = n
			}
		}
		if taken < 0 {
			from++
			continue
		}
		list = append(list, api.Piece{From: from, Article: taken})
		from += x.l[taken].Length
	}
	return list
}

func TestGreedy(t *testing.T) {
	for _, x := range append(cases(), jobs(7, 600, 20)...) {
		got, e := roll.Greedy(x.b, x.l)
		if !slices.Equal(got, x.greedy()) || e != api.OK {
			t.Errorf("P7.6: Greedy(%v, %v) is %v, %v, not %v", x.b, x.l, got, e, x.greedy())
		}
		_, best, _ := roll.Best(x.b, x.l)
		if value, e := roll.Value(x.b, x.l, got); value > best || e != api.OK {
			t.Errorf("P7.6: Greedy(%v, %v) has the value %v, %v, and Best %v", x.b, x.l, value, e, best)
		}
	}
}

func TestGreedyExamples(t *testing.T) {
	b := example().b
	for _, x := range []struct {
		l    []api.Article
		want []api.Piece
	}{
		{example().l, []api.Piece{{From: 0}, {From: 3}}},
		{[]api.Article{article(2, 6), article(3, 10)}, []api.Piece{{From: 0, Article: 1}, {From: 3, Article: 1}}},
		{[]api.Article{article(4, 6), article(3, 6)}, []api.Piece{{From: 0}, {From: 4, Article: 1}}},
		{[]api.Article{article(3, 6), article(4, 6)}, []api.Piece{{From: 0}, {From: 3}}},
		// An article is cut even if its price is 0.
		{[]api.Article{article(8, 6), article(5, 0)}, []api.Piece{{From: 0, Article: 1}}},
		{[]api.Article{article(8, 6)}, nil},
		{nil, nil},
	} {
		if got, e := roll.Greedy(b, x.l); !slices.Equal(got, x.want) || e != api.OK {
			t.Errorf("P7.6: Greedy(%v, %v) is %v, %v, not %v", b, x.l, got, e, x.want)
		}
	}
}

// waste returns the spans of the places that are in no piece, found place by place.
func (x job) waste(cutting []api.Piece) []api.Span {
	taken := make([]bool, len(spell(x.b)))
	for _, p := range cutting {
		for place := p.From; place < x.end(p); place++ {
			taken[place] = true
		}
	}
	var list []api.Span
	for place, is := range taken {
		if is {
			continue
		}
		if place == 0 || taken[place-1] {
			list = append(list, api.Span{From: place})
		}
		list[len(list)-1].To = place + 1
	}
	return list
}

func TestWaste(t *testing.T) {
	random := rand.New(rand.NewSource(8))
	for _, x := range append(cases(), jobs(9, 600, 20)...) {
		for _, cutting := range [][]api.Piece{nil, {}, x.greedy(), x.someCutting(random)} {
			if got, e := roll.Waste(x.b, x.l, cutting); !slices.Equal(got, x.waste(cutting)) || e != api.OK {
				t.Errorf("P7.7: Waste(%v, %v, %v) is %v, %v, not %v", x.b, x.l, cutting, got, e, x.waste(cutting))
			}
		}
	}
}

// normal returns the normal band with these marks.
func normal(marks []api.Mark) []api.Run {
	var b []api.Run
	for i, m := range marks {
		if i == 0 || m != marks[i-1] {
			b = append(b, api.Run{Mark: m})
		}
		b[len(b)-1].Length++
	}
	return b
}

func (x job) records(cutting []api.Piece, phase, repeat int) []roll.Record {
	var list []roll.Record
	for _, p := range cutting {
		place := phase
		for range p.From {
			place = (place + 1) % repeat
		}
		list = append(list, roll.Record{Article: p.Article, Phase: place, Band: normal(spell(x.b)[p.From:x.end(p)])})
	}
	return list
}

func TestRecords(t *testing.T) {
	random := rand.New(rand.NewSource(10))
	for _, x := range cases() {
		for _, repeat := range []int{1, 2, 5, api.MaxCells} {
			for _, phase := range []int{0, repeat - 1, random.Intn(repeat)} {
				cutting := x.someCutting(random)
				got, e := roll.Records(x.b, x.l, cutting, phase, repeat)
				if want := x.records(cutting, phase, repeat); !reflect.DeepEqual(got, want) || e != api.OK {
					t.Errorf("P7.7: Records(%v, %v, %v, %d, %d) is %v, %v, not %v", x.b, x.l, cutting, phase, repeat, got, e, want)
				}
			}
		}
	}
}

func TestRecordsRefused(t *testing.T) {
	x := flawed()
	wrong := [][2]int{{0, 0}, {-1, 0}, {0, -1}, {-2, -1}, {-1, 4}, {4, 4}, {5, 4}, {1, 1}, {0, api.MaxCells + 1}, {api.MaxCells, api.MaxCells}}
	for _, n := range numbers() {
		wrong = append(wrong, [2]int{n, 1}, [2]int{n, 5})
		if n != api.MaxArticles {
			wrong = append(wrong, [2]int{0, n})
		}
	}
	for _, n := range wrong {
		for _, cutting := range [][]api.Piece{nil, {{From: 0}}} {
			if got, e := roll.Records(x.b, x.l, cutting, n[0], n[1]); len(got) != 0 || e != api.ErrArg {
				t.Errorf("P7.7: Records of the phase %d and the repeat %d is %v, %v", n[0], n[1], got, e)
			}
		}
		for _, cutting := range [][]api.Piece{{{From: 2}}, {{From: 0}, {From: 1}}} {
			if got, e := roll.Records(x.b, x.l, cutting, n[0], n[1]); len(got) != 0 || e != x.check(cutting) {
				t.Errorf("P7.7: Records of the cutting %v, the phase %d and the repeat %d is %v, %v", cutting, n[0], n[1], got, e)
			}
		}
	}
}

// S2, the consequence of P7.7.
func TestPiecesAndWasteAreTheBand(t *testing.T) {
	random := rand.New(rand.NewSource(11))
	for _, x := range cases() {
		best, _, _ := roll.Best(x.b, x.l)
		for _, cutting := range [][]api.Piece{nil, best, x.greedy(), x.someCutting(random)} {
			records, _ := roll.Records(x.b, x.l, cutting, 0, 1)
			waste, _ := roll.Waste(x.b, x.l, cutting)
			parts := map[int][]api.Run{}
			for i, p := range cutting {
				parts[p.From] = records[i].Band
			}
			for _, s := range waste {
				parts[s.From], _ = band.Slice(x.b, s.From, s.To)
			}
			var joined []api.Run
			for from := range len(spell(x.b)) {
				joined = slices.Concat(joined, parts[from])
			}
			if len(parts) != len(cutting)+len(waste) || !slices.Equal(spell(joined), spell(x.b)) {
				t.Errorf("S2: the pieces %v and the waste %v of %v are joined as %v", cutting, waste, x, joined)
			}
		}
	}
}
