package roll_test

import (
	"math"
	"math/rand"
	"reflect"
	"slices"
	"testing"

	"linoleum/api"
	"linoleum/band"
	"linoleum/roll"
)

// run is a run of the shade 3.
func run(length, thick, flaw int) api.Run {
	return api.Run{Length: length, Mark: api.Mark{Thick: thick, Shade: 3, Flaw: flaw}}
}

// article is one for places with a thickness from 18 to 22, of any shade, without flaws.
func article(length, price int) api.Article {
	return api.Article{Length: length, Query: api.Query{Least: 18, Most: 22, Shade: -1}, Price: price}
}

// job is a band and the articles that can be cut from it.
type job struct {
	b []api.Run
	l []api.Article
}

// example has the band and the articles of DOC.md's example 7.
func example() job {
	return job{[]api.Run{run(7, 20, 0)}, []api.Article{article(3, 10), article(2, 6)}}
}

// flawed has a band of 10 with a pole mark at 4, and too thick from 8 on.
func flawed() job {
	return job{[]api.Run{run(4, 20, 0), run(1, 20, api.PoleMark), run(3, 22, 0), run(2, 25, 0)}, example().l}
}

// stripes has runs of the length 1 with the thicknesses 1 and 2 by turns: it is normal.
func stripes(runs int) []api.Run {
	b := make([]api.Run, runs)
	for i := range b {
		b[i] = run(1, 1+i%2, 0)
	}
	return b
}

// longest has a band of the greatest length and as many articles as there may be.
func longest() job {
	l := []api.Article{article(7, 70), article(11, 113), article(api.MaxCut, api.MaxPrice), article(1, 3), article(7, 71)}
	l[0].Query.Flaws = api.PoleMark
	var b []api.Run
	for range api.MaxRuns / 4 {
		b = append(b, run(12, 20, 0), run(2, 20, api.PoleMark), run(12, 21, 0), run(4, 23, 0))
	}
	return job{b, l}
}

// jobs returns random bands up to a length, and articles for them; the marks are so few that many places meet a query.
func jobs(seed int64, count, length int) []job {
	random := rand.New(rand.NewSource(seed))
	marks := []api.Mark{{Thick: 1}, {Thick: 1, Shade: 1}, {Thick: 2}, {Thick: 2, Flaw: api.PoleMark}, {Thick: 3, Flaw: api.PoleMark | api.Crack}}
	list := []job{{}, {nil, example().l}, {[]api.Run{run(3, 20, 0)}, nil}}
	for len(list) < count {
		var x job
		for left := random.Intn(length + 1); left > 0; left -= x.b[len(x.b)-1].Length {
			x.b = append(x.b, api.Run{Length: 1 + random.Intn(min(left, 4)), Mark: marks[random.Intn(len(marks))]})
		}
		for range random.Intn(api.MaxArticles + 1) {
			q := api.Query{Least: 1 + random.Intn(2), Most: 1 + random.Intn(3), Shade: random.Intn(3) - 1, Flaws: []int{0, 0, 1, 5, -1}[random.Intn(5)]}
			if random.Intn(2) == 0 {
				q = api.Query{Most: 3, Shade: -1, Flaws: 1 + 4*random.Intn(2)}
			}
			x.l = append(x.l, api.Article{Length: 1 + random.Intn(4), Query: q, Price: random.Intn(8)})
		}
		list = append(list, x)
	}
	return list
}

// cases returns the jobs by which most functions are tested place by place.
func cases() []job {
	return append(jobs(1, 400, 14), example(), flawed(), longest(), job{[]api.Run{run(api.MaxCut, 20, 0)}, longest().l})
}

// spell returns the mark of each place of a band.
func spell(b []api.Run) []api.Mark {
	var list []api.Mark
	for _, r := range b {
		for range r.Length {
			list = append(list, r.Mark)
		}
	}
	return list
}

// fits is P7.2 word by word, place by place.
func (x job) fits(p api.Piece) bool {
	marks := spell(x.b)
	if p.Article < 0 || p.Article >= len(x.l) || p.From < 0 || p.From > len(marks)-x.l[p.Article].Length {
		return false
	}
	for i := range x.l[p.Article].Length {
		if !band.Holds(x.l[p.Article].Query, marks[p.From+i]) {
			return false
		}
	}
	return true
}

// numbers has numbers that are, for most jobs, neither places nor numbers of articles.
func numbers() []int {
	return []int{-1, -2, api.MaxArticles, api.MaxCut, api.MaxCut + 1, math.MinInt, math.MinInt + 1, math.MaxInt, math.MaxInt - 1}
}

type badJob struct {
	job
	e api.Errno
}

func badLists() []badJob {
	good := article(2, 6)
	list := []badJob{
		{job{l: make([]api.Article, api.MaxArticles+1)}, api.ErrLarge}, // before ErrArg
		{job{l: slices.Repeat([]api.Article{good}, api.MaxArticles+1)}, api.ErrLarge},
		{job{l: make([]api.Article, api.MaxArticles)}, api.ErrArg},
	}
	for _, a := range []api.Article{
		article(0, 1), article(-1, 1), article(api.MaxCut+1, 1), article(math.MinInt, 1), article(math.MaxInt, 1),
		article(1, -1), article(1, api.MaxPrice+1), article(1, math.MinInt), article(1, math.MaxInt),
	} {
		list = append(list, badJob{job{l: []api.Article{a}}, api.ErrArg}, badJob{job{l: []api.Article{good, good, a}}, api.ErrArg}, badJob{job{l: []api.Article{a, good, good, good, good}}, api.ErrArg})
	}
	for i := range list {
		list[i].b = example().b
	}
	return list
}

// badBands returns jobs whose bands are refused, whatever the articles are.
func badBands() []badJob {
	long := run(api.MaxCut+1, 20, 0)
	list := []badJob{
		{job{b: []api.Run{run(0, 20, 0)}}, api.ErrArg},
		{job{b: []api.Run{run(7, 20, 0), run(1, 20, 16)}}, api.ErrArg},
		{job{b: []api.Run{run(7, 0, 0)}}, api.ErrArg},
		{job{b: []api.Run{long, run(1, 20, -1)}}, api.ErrArg}, // before the length
		{job{b: stripes(api.MaxRuns + 1)}, api.ErrLarge},
		{job{b: make([]api.Run, api.MaxRuns+1)}, api.ErrLarge},
		{job{b: []api.Run{run(api.MaxLength, 20, 0), run(1, 20, 0)}}, api.ErrLarge},
		{job{b: []api.Run{long}}, api.ErrLarge},
		{job{b: []api.Run{run(api.MaxCut, 20, 0), run(1, 20, 0)}}, api.ErrLarge},
		{job{b: []api.Run{run(api.MaxLength, 20, 0)}}, api.ErrLarge},
	}
	var all []badJob
	for _, x := range list {
		for _, l := range [][]api.Article{nil, example().l, {article(0, 0)}, make([]api.Article, api.MaxArticles+1)} {
			all = append(all, badJob{job{x.b, l}, x.e})
		}
	}
	return all
}

func TestValidate(t *testing.T) {
	queries := []api.Query{{}, {Least: 5, Most: 2}, {Least: math.MinInt, Most: math.MaxInt, Shade: math.MinInt, Flaws: math.MinInt}, {Least: math.MaxInt, Most: math.MinInt, Shade: math.MaxInt, Flaws: math.MaxInt}}
	for _, q := range queries {
		l := []api.Article{{Length: 1, Query: q}, {Length: api.MaxCut, Query: q, Price: api.MaxPrice}, {Length: 1, Query: q, Price: api.MaxPrice}}
		if e := roll.Validate(l); e != api.OK {
			t.Errorf("P7.1: Validate(%v) is %v", l, e)
		}
	}
	for _, x := range cases() {
		if e := roll.Validate(x.l); e != api.OK {
			t.Errorf("P7.1: Validate(%v) is %v", x.l, e)
		}
	}
	for _, x := range badLists() {
		if e := roll.Validate(x.l); e != x.e {
			t.Errorf("P7.1: Validate(%v) is %v, not %v", x.l, e, x.e)
		}
	}
}

// other has the arguments of a call beside the band and the articles.
type other struct {
	piece         api.Piece
	cutting       []api.Piece
	potentials    []int
	phase, repeat int
}

// calls returns, for each function, one that reports whether all results but the error are zero values, and the error.
func (x job) calls(o other) map[string]func() (bool, api.Errno) {
	type result = func() (bool, api.Errno)
	return map[string]result{
		"Fits":       func() (bool, api.Errno) { is, e := roll.Fits(x.b, x.l, o.piece); return !is, e },
		"Places":     func() (bool, api.Errno) { l, e := roll.Places(x.b, x.l, o.piece.Article); return len(l) == 0, e },
		"Check":      func() (bool, api.Errno) { return true, roll.Check(x.b, x.l, o.cutting) },
		"Value":      func() (bool, api.Errno) { n, e := roll.Value(x.b, x.l, o.cutting); return n == 0, e },
		"Best":       func() (bool, api.Errno) { l, n, e := roll.Best(x.b, x.l); return len(l) == 0 && n == 0, e },
		"Worth":      func() (bool, api.Errno) { l, e := roll.Worth(x.b, x.l); return len(l) == 0, e },
		"Bound":      func() (bool, api.Errno) { n, e := roll.Bound(x.b, x.l, o.potentials); return n == 0, e },
		"Potentials": func() (bool, api.Errno) { l, e := roll.Potentials(x.b, x.l); return len(l) == 0, e },
		"Greedy":     func() (bool, api.Errno) { l, e := roll.Greedy(x.b, x.l); return len(l) == 0, e },
		"Waste":      func() (bool, api.Errno) { l, e := roll.Waste(x.b, x.l, o.cutting); return len(l) == 0, e },
		"Records": func() (bool, api.Errno) {
			l, e := roll.Records(x.b, x.l, o.cutting, o.phase, o.repeat)
			return len(l) == 0, e
		},
		"Grade": func() (bool, api.Errno) { n, is, e := roll.Grade(x.b, x.l); return n == 0 && !is, e },
	}
}

// The errors of the band come before those of the articles, and both before those of the other arguments.
func TestErrorsOfBandAndArticlesFirst(t *testing.T) {
	right := other{cutting: []api.Piece{{}}, potentials: []int{0, 0, 6, 10, 12, 16, 20, 22}, repeat: 1}
	wrong := other{piece: api.Piece{From: -1, Article: -1}, cutting: []api.Piece{{From: -1}}, potentials: []int{1}, phase: -1}
	for _, x := range append(badBands(), badLists()...) {
		for _, o := range []other{right, wrong, {}} {
			for name, call := range x.calls(o) {
				if zero, e := call(); !zero || e != x.e {
					t.Errorf("P7.1, R3: %s of %v with %v is %v, not %v, and all other results zero: %v", name, x.job, o, e, x.e, zero)
				}
			}
		}
	}
	x := job{[]api.Run{run(api.MaxCut, 20, 0)}, []api.Article{article(api.MaxCut, api.MaxPrice)}}
	right.potentials = append(make([]int, api.MaxCut), api.MaxPrice)
	for name, call := range x.calls(right) {
		if _, e := call(); e != api.OK {
			t.Errorf("P7.1: %s of a band of the length MaxCut is %v", name, e)
		}
	}
}

func TestFits(t *testing.T) {
	for _, x := range jobs(2, 400, 14) {
		for article := range api.MaxArticles + 1 {
			for from := -3; from <= 20; from++ {
				p := api.Piece{From: from, Article: article}
				if is, e := roll.Fits(x.b, x.l, p); is != x.fits(p) || e != api.OK {
					t.Errorf("P7.2: Fits(%v, %v, %v) is %v, %v", x.b, x.l, p, is, e)
				}
			}
		}
	}
	x := example()
	for _, n := range numbers() {
		for _, p := range []api.Piece{{From: n}, {Article: n}, {From: n, Article: n}} {
			if is, e := roll.Fits(x.b, x.l, p); is || e != api.OK {
				t.Errorf("P7.2: Fits of %v is %v, %v", p, is, e)
			}
		}
	}
	if is, e := roll.Fits(nil, nil, api.Piece{}); is || e != api.OK {
		t.Errorf("P7.2: Fits of nothing is %v, %v", is, e)
	}
}

func TestPlaces(t *testing.T) {
	for _, x := range cases() {
		for n := range x.l {
			var want []int
			for from := range len(spell(x.b)) {
				if x.fits(api.Piece{From: from, Article: n}) {
					want = append(want, from)
				}
			}
			if got, e := roll.Places(x.b, x.l, n); !slices.Equal(got, want) || e != api.OK {
				t.Errorf("P7.2: Places(%v, %v, %d) is %v, %v, not %v", x.b, x.l, n, got, e, want)
			}
		}
		for _, n := range append(numbers(), len(x.l), len(x.l)+1) {
			if got, e := roll.Places(x.b, x.l, n); len(got) != 0 || e != api.ErrNone {
				t.Errorf("P7.2: Places of the article %d of %v is %v, %v", n, x.l, got, e)
			}
		}
	}
	x := flawed()
	if got, e := roll.Places(x.b, x.l, 0); !slices.Equal(got, []int{0, 1, 5}) || e != api.OK {
		t.Errorf("P7.2: Places beside a pole mark is %v, %v", got, e)
	}
}

// Neighboring runs whose marks differ, but which meet a query alike, are no border for a piece; neither are those of equal marks.
func TestPiecesGoOverRuns(t *testing.T) {
	x := job{[]api.Run{run(1, 20, 0), run(1, 20, 0), run(1, 21, 0), run(1, 22, 0), run(1, 23, 0)}, []api.Article{article(4, 1)}}
	if got, e := roll.Places(x.b, x.l, 0); !slices.Equal(got, []int{0}) || e != api.OK {
		t.Errorf("P7.2: Places(%v) is %v, %v", x.b, got, e)
	}
}

func TestQueriesOfAnyValue(t *testing.T) {
	values := []int{math.MinInt, -2, -1, 0, 1, 2, 3, math.MaxInt}
	b := []api.Run{run(2, 1, 0), run(2, 2, api.Stain), run(2, 3, api.MaxFlaw)}
	for _, least := range values {
		for _, most := range values {
			for _, shade := range values {
				for _, flaws := range values {
					x := job{b, []api.Article{{Length: 2, Query: api.Query{Least: least, Most: most, Shade: shade, Flaws: flaws}}}}
					for from := range 5 {
						p := api.Piece{From: from}
						if is, e := roll.Fits(x.b, x.l, p); is != x.fits(p) || e != api.OK {
							t.Errorf("P7.1, P7.2: Fits(%v, %v, %v) is %v, %v", x.b, x.l, p, is, e)
						}
					}
				}
			}
		}
	}
}

func TestGrade(t *testing.T) {
	found := 0
	for _, x := range append(jobs(3, 2000, 4), cases()...) {
		want, ok := 0, false
		for n, a := range x.l {
			if a.Length == len(spell(x.b)) && x.fits(api.Piece{Article: n}) && (!ok || a.Price > x.l[want].Price) {
				want, ok = n, true
			}
		}
		if ok {
			found++
		}
		if n, is, e := roll.Grade(x.b, x.l); n != want || is != ok || e != api.OK {
			t.Errorf("P7.8: Grade(%v, %v) is %v, %v, %v, not %v, %v", x.b, x.l, n, is, e, want, ok)
		}
	}
	if found < 300 {
		t.Errorf("P7.8: only %d bands have a grade", found)
	}
	b := []api.Run{run(2, 20, 0)}
	for _, x := range []struct {
		l  []api.Article
		n  int
		is bool
	}{
		{[]api.Article{article(3, 10), article(2, 6), article(2, 7), article(2, 7)}, 2, true},
		{[]api.Article{article(1, 10), article(2, 0)}, 1, true},
		{[]api.Article{article(2, 5), article(2, 5), article(2, 5), article(2, 5), article(2, 5)}, 0, true},
		{[]api.Article{article(1, 10), article(3, 5)}, 0, false},
		{[]api.Article{{Length: 2, Query: api.Query{Least: 21, Most: 22, Shade: -1}, Price: 9}}, 0, false},
		{nil, 0, false},
	} {
		if n, is, e := roll.Grade(b, x.l); n != x.n || is != x.is || e != api.OK {
			t.Errorf("P7.8: Grade(%v, %v) is %v, %v, %v", b, x.l, n, is, e)
		}
	}
	if n, is, e := roll.Grade(nil, example().l); n != 0 || is || e != api.OK {
		t.Errorf("P7.8: Grade of the empty band is %v, %v, %v", n, is, e)
	}
}

// results returns what all functions return for a job, with a cutting of the greatest value.
func (x job) results(cutting []api.Piece) []any {
	var list []any
	put := func(results ...any) { list = append(list, results...) }
	put(roll.Validate(x.l), roll.Check(x.b, x.l, cutting))
	putTwo := func(a any, e api.Errno) { put(a, e) }
	for n := range x.l {
		is, e := roll.Fits(x.b, x.l, api.Piece{Article: n})
		putTwo(is, e)
		places, e := roll.Places(x.b, x.l, n)
		putTwo(places, e)
	}
	value, e := roll.Value(x.b, x.l, cutting)
	putTwo(value, e)
	best, value, e := roll.Best(x.b, x.l)
	put(best, value, e)
	worth, e := roll.Worth(x.b, x.l)
	putTwo(worth, e)
	bound, e := roll.Bound(x.b, x.l, worth)
	putTwo(bound, e)
	potentials, e := roll.Potentials(x.b, x.l)
	putTwo(potentials, e)
	greedy, e := roll.Greedy(x.b, x.l)
	putTwo(greedy, e)
	waste, e := roll.Waste(x.b, x.l, cutting)
	putTwo(waste, e)
	records, e := roll.Records(x.b, x.l, cutting, 1, 5)
	putTwo(records, e)
	grade, is, e := roll.Grade(x.b, x.l)
	put(grade, is, e)
	return list
}

// spoil overwrites all that results have in memory.
func spoil(results []any) {
	for _, r := range results {
		switch l := r.(type) {
		case []int:
			clear(l)
		case []api.Piece:
			clear(l)
		case []api.Span:
			clear(l)
		case []roll.Record:
			for _, record := range l {
				clear(record.Band)
			}
		}
	}
}

func TestMemoryAndEqualCalls(t *testing.T) {
	for _, x := range cases() {
		cutting, _, _ := roll.Best(x.b, x.l)
		same := job{slices.Clone(x.b), slices.Clone(x.l)}
		kept := slices.Clone(cutting)
		first, second := x.results(cutting), same.results(kept)
		if !reflect.DeepEqual(first, second) {
			t.Errorf("R11: %v has the results %v and then %v", x, first, second)
		}
		spoil(first)
		if !slices.Equal(x.b, same.b) || !slices.Equal(x.l, same.l) || !slices.Equal(cutting, kept) {
			t.Errorf("R5: a call or a change of its results has changed an argument: %v, %v", x, cutting)
		}
		if third := x.results(cutting); !reflect.DeepEqual(third, second) {
			t.Errorf("R5: %v has other results when those before were changed: %v, %v", x, third, second)
		}
	}
}
