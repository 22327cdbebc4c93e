package works_test

import (
	"fmt"
	"math/rand"
	"slices"
	"strings"
	"testing"

	"linoleum/api"
	"linoleum/book"
	"linoleum/lot"
	"linoleum/works"
)

func randomRules(random *rand.Rand) works.Rules {
	r := works.Rules{Permit: pick(random, 0, 60, 300, 1000, 2400000), Repeat: pick(random, 1, 2, 7, api.MaxCells)}
	for range random.Intn(4) {
		q := api.Query{Least: pick(random, 0, 5, 18), Most: pick(random, 20, 22, 1000), Shade: pick(random, -1, -1, 7), Flaws: pick(random, 0, 1, 15)}
		r.Articles = append(r.Articles, api.Article{Length: pick(random, 1, 2, 3, 5, 10, 40, 100), Query: q, Price: pick(random, 0, 1, 10, 300)})
	}
	return r
}

// kinds is how many kinds of orders randomOrder knows.
const kinds = 12

// randomOrder returns an order of a kind that may be right or wrong for a works.
func randomOrder(random *rand.Rand, m *model, kind int) string {
	switch kind {
	case 0:
		kind := pick(random, "oil", "oil", "rosin", "gum", "cork", "pigment")
		return fmt.Sprintln("receive", kind, pick(random, 0, 1, 10, 50, 100, 300, api.MaxMass, api.MaxMass+1), pick(random, 0, 1, 200, 1000000))
	case 1, 2:
		return randomMake(random, m)
	case 3:
		kind := random.Intn(len(m.lots) + 1)
		return fmt.Sprintln("calender", randomName(random), kind, pick(random, 0, 1, 2, 19, 20, 22, 1000, 1001), pick(random, 0, 1, 6, 29, 50, 300, 301), pick(random, 0, 7, 99, 100))
	case 4:
		return fmt.Sprintln("flaw", randomBand(random, m), random.Intn(60), random.Intn(60), random.Intn(17))
	case 5:
		return fmt.Sprintln("press", randomBand(random, m), random.Intn(60), random.Intn(60), pick(random, 0, 1, 5, 18, 19, 1000, 1001))
	case 6:
		return fmt.Sprintln("hang", randomBand(random, m), pick(random, 0, 1, 2, 3, 6, 20, 1000, 1001), random.Intn(8))
	case 7:
		return fmt.Sprintln("turn", randomBand(random, m))
	case 8:
		if random.Intn(4) > 0 { // most bands stay for other orders
			return fmt.Sprintln("turn", randomBand(random, m))
		}
		return fmt.Sprintln("cut", randomBand(random, m), pick(random, 0, 0, 1, 5, 143, 144))
	case 9, 10:
		return fmt.Sprintln("sell", random.Intn(len(m.rolls)+1), pick(random, 0, 1, 299, 1000000))
	}
	what := pick(random, "thin", "shade", "flaw")
	return fmt.Sprintln("claim", random.Intn(len(m.rolls)+1), what, pick(random, 0, 1, 2, 5, 7, 8, 15, 16, 19, 20, 21, 1000000))
}

// randomMake returns an order whose masses are often at the edge of a recipe.
func randomMake(random *rand.Rand, m *model) string {
	if random.Intn(6) == 0 {
		return "make linoxyn 9 0 8"
	}
	kind := pick(random, "linoxyn", "cement", "mass")
	text, all := "", 0
	for range 1 + random.Intn(3) {
		of := random.Intn(len(m.lots) + 1)
		mass := pick(random, 1, 2, 4, 8, 9, 16, 18, 36, 80)
		text += fmt.Sprintf(" %d %d", of, mass)
		all += mass
	}
	return fmt.Sprintln("make", kind, pick(random, all, all-1, all+1, all*9/8, all*9/8+1, all/2)) + text
}

func randomName(random *rand.Rand) string {
	return pick(random, "a", "b", "c", "d2", "abcdefgh", "x", "y", "z9", "abcdefghi", "1a", "5")
}

func randomBand(random *rand.Rand, m *model) string {
	if names := m.names(); len(names) > 0 && random.Intn(8) > 0 {
		return pick(random, names...)
	}
	return randomName(random)
}

// spoilt returns a text with another byte, one more or one less.
func spoilt(random *rand.Rand, text string) string {
	at := random.Intn(len(text))
	c := pick(random, " ", "0", "1", "-", "+", "x", "A", "_", "\n", "\x00", "é")
	return pick(random, text[:at]+c+text[at+1:], text[:at]+c+text[at:], text[:at]+text[at+1:])
}

// expectAsModel compares all that a works answers with the model.
func expectAsModel(t *testing.T, w *works.Works, m *model) {
	t.Helper()
	if !alike(w.Lots(), m.lots) {
		t.Fatalf("P10.9: Lots is %v, not %v", w.Lots(), m.lots)
	}
	if !alike(w.Rolls(), m.rolls) {
		t.Fatalf("P10.9: Rolls is %v, not %v", w.Rolls(), m.rolls)
	}
	if !slices.Equal(w.Bands(), m.names()) {
		t.Fatalf("P10.9: Bands is %v, not %v", w.Bands(), m.names())
	}
	for _, b := range m.bands {
		if b.cut {
			hasNoBand(t, w, b.name)
		} else {
			hasBand(t, w, b.name, b.lot, runsOf(b.places)...)
		}
	}
	hasBalances(t, w, m.balances["stock"], m.balances["cash"], m.balances["sales"])
	if w.Stored() != storedIn(m.lots) || w.Book() != m.book {
		t.Fatalf("P10.9: %d is stored, not %d; or the book is\n%s, not\n%s", w.Stored(), storedIn(m.lots), w.Book(), m.book)
	}
}

// expectRecall compares Recall with the shares in the lot of each roll.
func expectRecall(t *testing.T, w *works.Works, m *model, of int, least api.Rat) {
	t.Helper()
	_, want := lot.Recall(m.lots, of, least)
	var rolls []int
	for i, g := range m.rolls {
		if c, e := lot.CompareShare(m.lots, of, g.Lot, least); want == api.OK && e == api.OK && c >= 0 {
			rolls = append(rolls, i)
		}
	}
	if got, e := w.Recall(of, least); !slices.Equal(got, rolls) || e != want {
		t.Fatalf("P10.9: Recall(%d, %v) is %v, %v, not %v, %v", of, least, got, e, rolls, want)
	}
}

// walk gives random orders to a works and to the model, and counts the errors of each kind of order.
func walk(t *testing.T, random *rand.Rand, count map[string]int) {
	r := randomRules(random)
	w, m := newWorks(t, r), newModel(r)
	begin := []string{"receive oil 300 5", "make linoxyn 300 0 300", "make cement 300 1 300", "receive cork 300 0", "make mass 400 2 250 3 150", "calender a 4 20 50 7"}
	begin = begin[:pick(random, 0, 2, 5, 6, 6)]
	often := random.Intn(kinds) // a kind of which every other order is
	for i := range pick(random, 20, 60, 400) {
		text := strings.Join(strings.Fields(randomOrder(random, m, pick(random, often, random.Intn(kinds)))), " ")
		if i < len(begin) {
			text = begin[i]
		}
		if random.Intn(20) == 0 {
			text = spoilt(random, text)
		}
		want := m.do(text)
		if e := w.Do(text); e != want {
			t.Fatalf("P10: after\n%sDo(%q) is %v, not %v", m.book, text, e, want)
		}
		count[fmt.Sprint(strings.Split(text, " ")[0], " ", int(want))]++
		if i%8 == 0 || want == api.OK {
			expectAsModel(t, w, m)
		}
	}
	expectRecall(t, w, m, random.Intn(len(m.lots)+1), api.Rat{Num: pick(random, 0, 1, 1, 1), Den: pick(random, 1, 2, 3, 10)})
	expectSame(t, w, m)
}

// expectSame expects that a works is right, and that its book makes it again (S1, S5).
func expectSame(t *testing.T, w *works.Works, m *model) {
	t.Helper()
	if !w.Audit() {
		t.Fatalf("P10.10: Audit is false after\n%s", w.Book())
	}
	again, n, e := works.Replay(m.rules, m.book)
	if e != api.OK || n != m.lines {
		t.Fatalf("P10.11: Replay of\n%s is %v, %v", m.book, n, e)
	}
	expectAsModel(t, again, m)
	lines, _ := book.Read(m.book)
	if len(lines) != m.lines {
		t.Fatalf("P10: the book has %d lines, not %d", len(lines), m.lines)
	}
}

func TestRandomOrders(t *testing.T) {
	random := rand.New(rand.NewSource(1001))
	count := map[string]int{}
	for range 2500 {
		walk(t, random, count)
	}
	for _, key := range []string{
		"receive 0", "receive 1", "receive 3", "receive 4", "receive 14",
		"make 0", "make 1", "make 3", "make 4", "make 6", "make 9", "make 14",
		"calender 0", "calender 1", "calender 2", "calender 3", "calender 4", "calender 5", "calender 6", "calender 9",
		"flaw 0", "flaw 1", "flaw 3", "flaw 4", "flaw 5", "press 0", "press 1", "press 3", "press 5",
		"hang 0", "hang 1", "hang 3", "hang 4", "hang 5", "turn 0", "turn 3", "turn 4", "turn 5", "cut 0", "cut 1", "cut 3", "cut 5",
		"sell 0", "sell 3", "sell 4", "sell 5", "sell 8", "claim 0", "claim 3", "claim 4", "claim 5", "claim 8", "claim 9",
	} {
		if count[key] < 5 {
			t.Errorf("P10: only %d orders are of the kind and have the error %s", count[key], key)
		}
	}
}
