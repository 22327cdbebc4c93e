package works_test

import (
	"fmt"
	"math/rand"
	"slices"
	"strings"
	"testing"

	"linoleum/api"
	"linoleum/book"
	"linoleum/works"
)

// allOrders are orders of every kind, which a works takes one after the other.
func allOrders() []string {
	return append(firstOrders(), "receive gum 5 12", "calender b 5 20 41 7", "flaw a 5 6 4", "press a 50 100 19", "hang b 50 40", "turn b", "cut a 3", "sell 1 9", "sell 0 300", "cut b 0", "claim 1 thin 21", "sell 2 0", "claim 2 shade 1", "make mass 10 3 9 6 1")
}

// bookOf returns a book with these texts.
func bookOf(texts ...string) string {
	text := ""
	for _, x := range texts {
		text, _ = book.Append(text, x)
	}
	return text
}

// The book has the orders that were taken, each as it was given.
func TestBook(t *testing.T) {
	w := newWorks(t, rules())
	var taken []string
	for _, text := range allOrders() {
		refuses(t, w, api.ErrSyntax, "turn")
		refuses(t, w, api.ErrNone, "turn z")
		do(t, w, text)
		taken = append(taken, text)
		if w.Book() != bookOf(taken...) {
			t.Fatalf("P10: after %q the book is\n%s", taken, w.Book())
		}
	}
	lines, rest := book.Read(w.Book())
	if len(lines) != len(taken) || rest != "" || lines[len(lines)-1].Text != taken[len(taken)-1] {
		t.Errorf("P10: the lines are %v", lines)
	}
}

// S5: any beginning of the book's lines makes the works as it was then.
func TestReplay(t *testing.T) {
	w := newWorks(t, rules())
	for i, text := range append([]string{""}, allOrders()...) {
		if i > 0 {
			do(t, w, text)
		}
		again, n, e := works.Replay(rules(), w.Book())
		if e != api.OK || n != i || seen(again) != seen(w) {
			t.Fatalf("P10.11: Replay of\n%s is %v, %v", w.Book(), n, e)
		}
		if !w.Audit() || !again.Audit() {
			t.Errorf("P10.10: Audit is false after\n%s", w.Book())
		}
		do(t, again, "receive pigment 1 0")
		if seen(again) == seen(w) {
			t.Errorf("P10.11: the works and that of Replay are one")
		}
	}
}

// S5: a book that was cut anywhere makes the works of its whole lines, once it is repaired.
func TestReplayOfTornBooks(t *testing.T) {
	text := bookOf(allOrders()...)
	for end := range len(text) {
		torn := text[:end]
		if !strings.HasSuffix(torn, "\n") && torn != "" {
			if w, n, e := works.Replay(rules(), torn); w != nil || n != 0 || e != api.ErrBroken {
				t.Errorf("P10.11: Replay of the torn book %q is %v, %v", torn, n, e)
			}
		}
		w, n, e := works.Replay(rules(), book.Repair(torn))
		if e != api.OK || n != strings.Count(torn, "\n") || w.Book() != book.Repair(torn) {
			t.Fatalf("P10.11: Replay of %q is %v, %v", book.Repair(torn), n, e)
		}
	}
	for _, torn := range []string{"x", "\n", " ", text + "x", text + "\n", "\n" + text, text + text, strings.Replace(text, "oil", "gum", 1), text[strings.Index(text, "\n")+1:], bookOf(slices.Repeat([]string{"note"}, api.MaxLines)...) + "201 1 a\n"} {
		if w, n, e := works.Replay(rules(), torn); w != nil || n != 0 || e != api.ErrBroken {
			t.Errorf("P10.11: Replay of %q is %v, %v", torn, n, e)
		}
	}
}

// A whole book may have what the works refuses: then its number tells where.
func TestReplayRefuses(t *testing.T) {
	for _, x := range []struct {
		text string
		want api.Errno
	}{
		{"a note", api.ErrSyntax}, {"post stock cash 1d", api.ErrSyntax}, {"turn", api.ErrSyntax}, {"turn z", api.ErrNone}, {"receive oil 0 0", api.ErrArg}, {"calender a 5 20 1 7", api.ErrName}, {"make mass 9 4 9", api.ErrShort},
		{"receive oil 400 0", api.ErrPermit}, {"sell 0 1", api.ErrState}, {"claim 0 thin 1", api.ErrRule}, {"make mass 1 0 1 1 1 2 1 3 1 4 1 5 1 6 1", api.ErrLarge},
	} {
		for _, at := range []int{16, 18, len(allOrders())} {
			texts := append(allOrders()[:at], x.text, "turn zz", "receive gum 1 0")
			if w, n, e := works.Replay(rules(), bookOf(texts...)); w != nil || n != at+1 || e != x.want {
				t.Errorf("P10.11: Replay with %q behind line %d is %v, %v, not %v", x.text, at, n, e, x.want)
			}
		}
	}
	// A broken book is broken, whatever its lines are.
	if w, n, e := works.Replay(rules(), bookOf("turn z")+"x"); w != nil || n != 0 || e != api.ErrBroken {
		t.Errorf("P10.11: Replay of a broken book is %v, %v", n, e)
	}
}

// newAfter returns a works after the first ones of all orders.
func newAfter(t *testing.T, n int) *works.Works {
	return made(t, rules(), allOrders()[:n]...)
}

// The rules decide, too: by others, a book may make another works, or none.
func TestReplayByOtherRules(t *testing.T) {
	text := newAfter(t, 13).Book()
	r := rules()
	r.Permit = 99
	if w, n, e := works.Replay(r, text); w != nil || n != 1 || e != api.ErrPermit {
		t.Errorf("P10.11: Replay with a smaller permit is %v, %v", n, e)
	}
	r = rules()
	r.Articles[0].Price = 7
	r.Repeat = 3
	if w, n, e := works.Replay(r, bookOf(allOrders()...)); w != nil || n != 14 || e != api.ErrArg {
		t.Errorf("P10.11: Replay with a smaller repeat is %v, %v", n, e)
	}
	r.Repeat = 4
	if w, n, e := works.Replay(r, bookOf(append(allOrders()[:12], "cut a 3")...)); e != api.OK || n != 13 || w.Rolls()[0].Price != 7 {
		t.Errorf("P10.11: Replay with another price is %v, %v", n, e)
	}
}

func TestRun(t *testing.T) {
	orders := slices.Concat([]string{"turn a", ""}, allOrders(), []string{"turn z", "receive oil 300 0", "receive gum 1 0", "sell 0 1"})
	list, text, e := works.Run(rules(), orders)
	want := slices.Concat([]api.Errno{api.ErrNone, api.ErrSyntax}, make([]api.Errno, len(allOrders())), []api.Errno{api.ErrNone, api.ErrPermit, api.OK, api.ErrState})
	if !slices.Equal(list, want) || text != bookOf(append(allOrders(), "receive gum 1 0")...) || e != api.OK {
		t.Errorf("P10.12: Run is %v, %v, and the book\n%s", list, e, text)
	}
	if list, text, e := works.Run(rules(), nil); len(list) != 0 || text != "" || e != api.OK {
		t.Errorf("P10.12: Run of nothing is %v, %q, %v", list, text, e)
	}
}

func TestRunOfManyOrders(t *testing.T) {
	orders := append(firstOrders(), slices.Repeat([]string{"turn a"}, api.MaxLines-7)...)
	list, text, e := works.Run(rules(), orders)
	if !slices.Equal(list, make([]api.Errno, api.MaxLines)) || strings.Count(text, "\n") != api.MaxLines || e != api.OK {
		t.Errorf("P10.12: Run of MaxLines orders is %v, %v", list, e)
	}
	wrong := rules()
	wrong.Permit = -1
	for _, r := range []works.Rules{rules(), wrong} {
		if list, text, e := works.Run(r, append(orders, "turn a")); len(list) != 0 || text != "" || e != api.ErrLarge {
			t.Errorf("P10.12: Run of more orders is %v, %q, %v", list, text, e)
		}
	}
	if list, text, e := works.Run(wrong, orders); len(list) != 0 || text != "" || e != api.ErrArg {
		t.Errorf("P10.12: Run with wrong rules is %v, %q, %v", list, text, e)
	}
}

// Run is what the orders do one by one.
func TestRunOfRandomOrders(t *testing.T) {
	random := rand.New(rand.NewSource(1005))
	for range 100 {
		r := randomRules(random)
		w, m := newWorks(t, r), newModel(r)
		var orders []string
		var want []api.Errno
		for range random.Intn(api.MaxLines) {
			text := strings.Join(strings.Fields(randomOrder(random, m, random.Intn(kinds))), " ")
			m.do(text)
			orders = append(orders, text)
			want = append(want, w.Do(text))
		}
		for range 2 { // R11
			if list, text, e := works.Run(r, orders); !slices.Equal(list, want) || text != w.Book() || e != api.OK {
				t.Fatalf("P10.12: Run of %q is %v, %v, not %v", orders, list, e, want)
			}
		}
	}
}

// A works of the greatest size: many rolls, in a full book.
func TestManyRolls(t *testing.T) {
	r := works.Rules{Articles: []api.Article{{Length: 1, Query: api.Query{Most: 1000, Shade: -1}, Price: 1}}, Permit: 2400000, Repeat: 144}
	w := made(t, r, "receive oil 20000 0", "make linoxyn 20000 0 20000", "make cement 20000 1 20000", "make mass 20000 2 20000")
	for i := range api.MaxLots - 4 {
		do(t, w, fmt.Sprint("calender b", i, " 3 100 300 7"), fmt.Sprint("cut b", i, " 143"))
	}
	for i := range api.MaxLines - 44 {
		do(t, w, fmt.Sprint("sell ", 37*i, " 0"))
	}
	if rolls := w.Rolls(); len(rolls) != 6000 || rolls[5999].Number != 5999 || rolls[5999].Lot != 23 || rolls[5999].Phase != (143+299)%144 || rolls[37].State != works.Sold || rolls[38].State != works.InStock {
		t.Errorf("P10.6: there are %d rolls", len(rolls))
	}
	if !w.Audit() {
		t.Errorf("P10.10: Audit of many rolls is false")
	}
}
