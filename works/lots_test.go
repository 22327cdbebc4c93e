package works_test

import (
	"fmt"
	"strings"
	"testing"

	"linoleum/api"
	"linoleum/works"
)

func TestReceive(t *testing.T) {
	w := newWorks(t, works.Rules{Repeat: 1, Permit: 2400000})
	for i, kind := range []string{"oil", "rosin", "gum", "cork", "pigment"} {
		do(t, w, fmt.Sprint("receive ", kind, " ", 10+i, " ", 100*i))
	}
	want := []api.Lot{{Kind: api.Oil, Mass: 10}, {Kind: api.Rosin, Mass: 11}, {Kind: api.Gum, Mass: 12}, {Kind: api.Cork, Mass: 13}, {Kind: api.Pigment, Mass: 14}}
	if !alike(w.Lots(), want) {
		t.Errorf("P10.2: Lots is %v, not %v", w.Lots(), want)
	}
	hasBalances(t, w, 1000, -1000, 0)
	if w.Stored() != 10 {
		t.Errorf("P10.2: %d is stored, not 10", w.Stored())
	}
	do(t, w, "receive rosin 1 0", "receive cork 100000 1000000")
	hasBalances(t, w, 1001000, -1001000, 0)
	refuses(t, w, api.ErrArg, "receive oil 0 0", "receive oil 100001 5", "receive gum 0 5")
}

// What is stored is what is left of oil and linoxyn.
func TestPermit(t *testing.T) {
	w := made(t, works.Rules{Repeat: 1, Permit: 100}, "receive cork 1000 0", "receive rosin 1000 0", "receive oil 60 0", "receive oil 40 0")
	refuses(t, w, api.ErrPermit, "receive oil 1 0", "receive oil 100000 1")
	refuses(t, w, api.ErrArg, "receive oil 100001 1")
	refuses(t, w, api.ErrRule, "make linoxyn 12 2 10")
	refuses(t, w, api.ErrPermit, "make linoxyn 11 2 10")
	refuses(t, w, api.ErrShort, "make linoxyn 70 2 61")
	do(t, w, "make linoxyn 10 2 10", "make linoxyn 15 2 20", "receive oil 5 0")
	refuses(t, w, api.ErrPermit, "receive oil 1 0", "make linoxyn 33 2 30")
	do(t, w, "make linoxyn 32 2 20 3 12") // as much as it takes
	if w.Stored() != 100 {
		t.Errorf("P10.3: %d is stored, not 100", w.Stored())
	}
	do(t, w, "make cement 10 4 10", "receive oil 10 0", "receive rosin 9 0")
	refuses(t, w, api.ErrPermit, "receive oil 1 0")
	closed := newWorks(t, works.Rules{Repeat: 1})
	refuses(t, closed, api.ErrPermit, "receive oil 1 0")
	do(t, closed, "receive rosin 100000 0")
}

func TestMake(t *testing.T) {
	w := made(t, works.Rules{Repeat: 1, Permit: 1000}, "receive oil 100 0", "receive oil 100 0", "make linoxyn 110 0 60 1 40")
	want := api.Lot{Kind: api.Linoxyn, Mass: 110, Parts: []api.Part{{Lot: 0, Mass: 60}, {Lot: 1, Mass: 40}}}
	if lots := w.Lots(); len(lots) != 3 || !alike(lots[2:], []api.Lot{want}) {
		t.Errorf("P10.3: Lots is %v, with not %v", lots, want)
	}
	if w.Stored() != 210 {
		t.Errorf("P10.3: %d is stored, not 210", w.Stored())
	}
	hasBalances(t, w, 0, 0, 0)
	do(t, w, "make linoxyn 1 0 20 1 3") // what is lost is no matter of recipes
	if w.Stored() != 188 {
		t.Errorf("P10.3: %d is stored, not 188", w.Stored())
	}
	refuses(t, w, api.ErrArg, "make linoxyn 0 0 1", "make linoxyn 100001 0 1", "make linoxyn 1 0 0", "make linoxyn 1 4 1", "make linoxyn 1 0 1 0 1", "make mass 1 0 100001")
	refuses(t, w, api.ErrLarge, "make linoxyn 1 0 1 1 1 2 1 3 1 4 1 5 1 6 1")
	refuses(t, w, api.ErrShort, "make linoxyn 30 1 58")
	// The error of lot.Add comes before that of the recipe.
	refuses(t, w, api.ErrShort, "make linoxyn 300 1 58", "make mass 1 2 111")
}

// recipes is a works with one lot of each kind: oil 0, rosin 1, gum 2, cork 3, pigment 4, linoxyn 5, cement 6, mass 7.
func recipes(t *testing.T) *works.Works {
	return made(t, works.Rules{Repeat: 1, Permit: 2400000}, "receive oil 10000 0", "receive rosin 10000 0", "receive gum 10000 0", "receive cork 10000 0", "receive pigment 10000 0",
		"make linoxyn 5000 0 5000", "make cement 2000 5 2000", "make mass 1000 6 1000")
}

func TestRecipes(t *testing.T) {
	for _, x := range []struct {
		right bool
		text  string
	}{
		{true, "linoxyn 9 0 8"}, {false, "linoxyn 10 0 8"}, {true, "linoxyn 90 0 80"}, {false, "linoxyn 91 0 80"}, {true, "linoxyn 10 0 9"}, {false, "linoxyn 11 0 9"}, {true, "linoxyn 1 0 1"}, {false, "linoxyn 2 0 1"},
		{false, "linoxyn 8 1 8"}, {false, "linoxyn 8 0 7 1 1"}, {false, "linoxyn 8 0 7 2 1"}, {false, "linoxyn 8 0 7 3 1"}, {false, "linoxyn 8 0 7 4 1"}, {false, "linoxyn 8 0 7 5 1"}, {false, "linoxyn 8 0 7 6 1"}, {false, "linoxyn 8 0 7 7 1"}, {false, "linoxyn 8 5 8"},
		{true, "cement 8 5 8"}, {true, "cement 8 5 4 1 4"}, {true, "cement 8 5 4 2 4"}, {true, "cement 8 5 4 1 2 2 2"}, {true, "cement 1 5 4 1 2 2 2"}, {false, "cement 9 5 4 1 5"}, {false, "cement 9 5 4 2 5"}, {true, "cement 9 5 5 2 4"}, {false, "cement 9 5 4 1 2 2 3"},
		{false, "cement 8 1 8"}, {false, "cement 8 5 7 0 1"}, {false, "cement 8 5 7 3 1"}, {false, "cement 8 5 7 4 1"}, {false, "cement 8 5 7 6 1"}, {false, "cement 8 5 7 7 1"}, {false, "cement 9 5 8"},
		{true, "mass 8 6 8"}, {true, "mass 8 6 2 3 6"}, {true, "mass 8 6 2 4 6"}, {true, "mass 8 6 2 3 3 4 3"}, {false, "mass 9 6 2 3 7"}, {false, "mass 9 6 2 4 7"}, {true, "mass 9 6 3 3 6"}, {false, "mass 9 6 2 3 3 4 4"}, {false, "mass 8 3 8"}, {false, "mass 8 4 8"},
		{false, "mass 8 6 7 0 1"}, {false, "mass 8 6 7 1 1"}, {false, "mass 8 6 7 2 1"}, {false, "mass 8 6 7 5 1"}, {false, "mass 9 6 8"},
		{true, "mass 10 6 9 7 1"}, {true, "mass 10 3 9 7 1"}, {true, "mass 10 3 5 4 4 7 1"}, {true, "mass 10 6 1 3 8 7 1"}, {false, "mass 9 6 8 7 1"}, {false, "mass 19 6 17 7 2"}, {true, "mass 20 6 18 7 2"}, {false, "mass 10 7 10"}, {false, "mass 10 3 8 7 2"}, {true, "mass 11 4 10 7 1"},
		{false, "mass 20 6 10 5 8 7 2"}, {false, "mass 20 0 18 7 2"},
	} {
		w := recipes(t)
		if !x.right {
			refuses(t, w, api.ErrRule, "make "+x.text)
			continue
		}
		do(t, w, "make "+x.text)
		if !w.Audit() || len(w.Lots()) != 9 {
			t.Errorf("P10.3: after the order %q, Audit is %v", x.text, w.Audit())
		}
	}
}

// All lots count whose kind is that of a recipe.
func TestRecipesOfSeveralLots(t *testing.T) {
	w := recipes(t)
	do(t, w, "make linoxyn 10 0 10", "make cement 10 5 10", "make mass 10 6 10")
	refuses(t, w, api.ErrRule, "make cement 9 5 2 8 2 1 5", "make mass 9 6 1 9 1 3 7", "make mass 19 6 17 7 1 10 1", "make linoxyn 10 0 7 8 3")
	do(t, w, "make cement 8 5 2 8 2 1 4", "make mass 8 6 1 9 1 3 6", "make mass 20 6 18 7 1 10 1")
}

// There are at most MaxLots lots, whatever they are made of.
func TestLotsOfWorks(t *testing.T) {
	w := first(t)
	for range api.MaxLots - 7 {
		do(t, w, "receive gum 1 0")
	}
	refuses(t, w, api.ErrLarge, "receive gum 1 0", "receive oil 0 0", "make cement 1 1 1", "make mass 1 99 1", "calender b 5 20 100 7")
	refuses(t, w, api.ErrArg, "calender b 5 20 301 7")
	if !w.Audit() {
		t.Errorf("P10.10: Audit with MaxLots lots is false")
	}
}

// There are at most MaxPostings postings; what posts nothing needs none.
func TestPostings(t *testing.T) {
	r := rules()
	r.Articles = []api.Article{{Length: 1, Query: api.Query{Most: 1000, Shade: -1}, Price: 10}}
	w := made(t, r, append(firstOrders(), "cut a 0")...) // with two postings
	for i := range api.MaxPostings - 4 {
		do(t, w, fmt.Sprint("sell ", i, " ", i+1))
	}
	do(t, w, "sell 98 0", "claim 59 thin 21", "receive gum 1 1", "sell 99 0")
	stock, cash, sales := w.Balance("stock"), w.Balance("cash"), w.Balance("sales")
	if stock != 251 || sales != -(60*61/2)+60 || stock+cash+sales != 0 {
		t.Errorf("P10: the balances are %d, %d, %d", stock, cash, sales)
	}
	refuses(t, w, api.ErrLarge, "receive gum 1 1", "sell 60 1", "claim 0 thin 21", "claim 58 shade 8")
	// The other errors come first.
	refuses(t, w, api.ErrArg, "receive gum 0 1")
	refuses(t, w, api.ErrPermit, "receive oil 291 1")
	refuses(t, w, api.ErrNone, "sell 100 1", "claim 100 thin 21")
	refuses(t, w, api.ErrState, "sell 0 1", "sell 59 1", "claim 59 thin 21", "claim 60 thin 21")
	refuses(t, w, api.ErrRule, "claim 0 thin 20", "claim 0 shade 7", "claim 0 flaw 15")
	do(t, w, "receive gum 1 0", "receive oil 290 0", "sell 60 0", "claim 60 thin 21", "claim 98 thin 21", "make mass 10 3 10", "calender b 5 20 10 7", "cut b 0")
	hasBalances(t, w, stock, cash, sales)
	if !w.Audit() || strings.Count(w.Book(), "\n") != 80 {
		t.Errorf("P10.10: Audit with MaxPostings postings is %v, and the book has %d lines", w.Audit(), strings.Count(w.Book(), "\n"))
	}
}
