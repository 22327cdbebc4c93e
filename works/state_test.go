package works

import (
	"errors"
	"fmt"
	"slices"
	"strings"
	"testing"

	"linoleum/api"
	"linoleum/book"
)

// busy returns a works with lots, bands, rolls in all states and postings.
func busy(t *testing.T) *Works {
	t.Helper()
	article := api.Article{Length: 30, Query: api.Query{Most: 1000, Shade: -1}, Price: 300}
	w, e := New(Rules{Articles: []api.Article{article}, Permit: 300, Repeat: 6})
	if e != api.OK {
		t.Fatalf("P10.1: New is %v", e)
	}
	for _, text := range []string{
		"receive oil 100 240", "make linoxyn 110 0 100", "receive rosin 20 0", "make cement 120 1 100 2 20", "receive cork 100 10", "make mass 200 3 100 4 100",
		"calender a 5 20 100 7", "calender b 5 20 50 7", "calender c 5 20 50 8", "flaw b 0 5 2", "cut a 0", "sell 0 200", "sell 1 100", "claim 1 thin 21",
	} {
		if e := w.Do(text); e != api.OK {
			t.Fatalf("P10: Do(%q) is %v", text, e)
		}
	}
	return w
}

// Whatever is altered in a works, Audit finds it.
func TestAuditOfAlteredWorks(t *testing.T) {
	for i, alter := range []func(s *state){
		func(s *state) { s.lots = nil },
		func(s *state) { s.lots[0].Mass++ },
		func(s *state) { s.lots[0].Mass = 0 },
		func(s *state) { s.lots[2].Kind = api.Gum },
		func(s *state) { s.lots[3].Mass-- },
		func(s *state) { s.lots[5].Parts[0].Mass-- },
		func(s *state) { s.lots[5].Parts[1].Mass = 101 },
		func(s *state) { s.lots[5].Kind = api.Cement },
		func(s *state) { s.lots = append(s.lots, api.Lot{Kind: api.Gum, Mass: 1}) },
		func(s *state) { s.lots = append(s.lots, api.Lot{Kind: api.Oil, Mass: 300}) },
		func(s *state) { s.sheets = s.sheets[:1] },
		func(s *state) { s.sheets = append(s.sheets, sheet{name: "d", lot: 6}) },
		func(s *state) { s.sheets[0], s.sheets[1] = s.sheets[1], s.sheets[0] },
		func(s *state) { s.sheets[0].name = "d" },
		func(s *state) { s.sheets[0].lot = 6 },
		func(s *state) { s.sheets[0].lot = 3 },
		func(s *state) { s.sheets[0].band[0].Mark.Flaw = 0 },
		func(s *state) { s.sheets[1].band = nil },
		func(s *state) { s.rolls = s.rolls[:2] },
		func(s *state) { s.rolls = append(s.rolls, s.rolls[0]) },
		func(s *state) { s.rolls[0].Number = 1 },
		func(s *state) { s.rolls[0].Lot = 5 },
		func(s *state) { s.rolls[0].Lot = 0 },
		func(s *state) { s.rolls[1].Phase++ },
		func(s *state) { s.rolls[1].Article = 1 },
		func(s *state) { s.rolls[2].Band[0].Length = 31 },
		func(s *state) { s.rolls[0].Price = 300 },
		func(s *state) { s.rolls[0].State = Returned },
		func(s *state) { s.postings = nil },
		func(s *state) { s.postings = s.postings[1:] },
		func(s *state) { s.postings[0].Pence++ },
		func(s *state) { s.postings[0].Debit = "goods" },
		func(s *state) { s.postings[0].Debit = "cash" },
		func(s *state) { s.postings = append(s.postings, s.postings[0]) },
		func(s *state) { s.book = "" },
		func(s *state) { s.book = s.book[:len(s.book)-1] },
		func(s *state) { s.book = book.Repair(s.book[:len(s.book)-1]) },
		func(s *state) { s.book = strings.Replace(s.book, "240", "241", 1) },
		func(s *state) { s.book, _ = book.Append(s.book, "receive gum 1 0") },
		func(s *state) { s.book, _ = book.Append(s.book, "turn z") },
		func(s *state) { s.rules.Permit = 9 },
		func(s *state) { s.rules.Permit = 99 },
		func(s *state) { s.rules.Articles[0].Price = 9 },
		func(s *state) { s.rules.Articles = nil },
		func(s *state) { s.rules.Repeat = 4 },
		func(s *state) { s.rules.Repeat = 0 },
	} {
		w := busy(t)
		if !w.Audit() {
			t.Fatalf("P10.10: Audit is false")
		}
		alter(&w.state)
		if w.Audit() {
			t.Errorf("P10.10: Audit is true after the alteration %d", i)
		}
	}
	if new(Works).Audit() {
		t.Errorf("P10.10: Audit of a works that New did not make is true")
	}
}

// An order makes another state, and leaves the one before as it was, taken or refused.
func TestStateBeforeOrder(t *testing.T) {
	w := busy(t)
	before := fmt.Sprint(w.state)
	for _, text := range []string{
		"receive gum 5 5", "make mass 10 3 10", "calender d 5 20 50 7", "flaw b 5 9 4", "press b 1 9 10", "hang b 10 10", "turn b", "cut b 0", "cut c 1", "sell 2 7", "claim 0 shade 8",
		"receive oil 300 5", "receive gum 0 5", "make cement 10 3 10", "calender b 5 20 50 7", "flaw b 0 51 4", "cut b 6", "sell 0 7", "claim 0 shade 7", "claim 1 thin 21", "turn", "",
	} {
		s := w.state
		after, err := s.after(text)
		if fmt.Sprint(s) != before {
			t.Fatalf("P10: after the order %q the state before it is\n%v, not\n%s", text, s, before)
		}
		if err == nil && (fmt.Sprint(after) == before || after.book == s.book) {
			t.Errorf("P10: the order %q has changed nothing", text)
		}
	}
}

// A refused order is an error that tells the order and the reason.
func TestRefusal(t *testing.T) {
	s, err := busy(t).state.after("turn z")
	var r refusal
	if !errors.As(err, &r) || r.reason != api.ErrNone || r.order != "turn z" || s.book != "" {
		t.Fatalf("P10: the refused order is %v", err)
	}
	if text := err.Error(); !strings.Contains(text, "turn z") || !strings.Contains(text, "5") {
		t.Errorf("P10: the refusal is %q", text)
	}
	if err := errors.Join(errors.New("replay"), err); !errors.As(err, &r) {
		t.Errorf("P10: the refusal is not found in %v", err)
	}
}

// The kinds of orders are different, and each text has one.
func TestKindsOfOrders(t *testing.T) {
	for kind, text := range []string{
		"receive gum 1 2", "make mass 1 2 3", "calender a 1 2 3 4", "flaw a 1 2 3", "press a 1 2 3", "hang a 1 2", "turn a", "cut a 1", "sell 1 2", "claim 1 flaw 2",
	} {
		o, ok := parse(text)
		if !ok || o.kind != kind {
			t.Errorf("P10: %q is of the kind %d, %v", text, o.kind, ok)
		}
		want := []int{1, 2, 3, 4}
		if !slices.Equal(o.numbers, want[:len(o.numbers)]) {
			t.Errorf("P10: %q has the numbers %v", text, o.numbers)
		}
	}
}

// Each condition of Audit is examined for itself, too.
func TestConditionsOfAudit(t *testing.T) {
	oil, mass := api.Lot{Kind: api.Oil, Mass: 5}, api.Lot{Kind: api.Mass, Mass: 5, Parts: []api.Part{{Lot: 0, Mass: 5}}}
	lots := []api.Lot{oil, mass}
	if s := (state{lots: lots}); !s.keepsMass() || !s.isOfMass() || !s.balances() {
		t.Errorf("P10.10: the lots %v do not keep the conditions", lots)
	}
	if s := (state{lots: []api.Lot{mass}}); s.keepsMass() {
		t.Errorf("P10.10: lots that are not valid keep their mass")
	}
	for stored, permit := range map[int]int{5: 5, 6: 5, 0: 0, 1: 0} {
		s := state{rules: Rules{Permit: permit}}
		if stored > 0 {
			s.lots = []api.Lot{{Kind: api.Oil, Mass: stored}}
		}
		if s.keepsPermit() != (stored <= permit) {
			t.Errorf("P10.10: %d is stored by a permit of %d", stored, permit)
		}
	}
	for of := -1; of <= 2; of++ {
		sheets, rolls := []sheet{{lot: 1}, {lot: of}}, []Goods{{Lot: 1}, {Lot: of}}
		if (state{lots: lots, sheets: sheets}).isOfMass() != (of == 1) || (state{lots: lots, rolls: rolls}).isOfMass() != (of == 1) {
			t.Errorf("P10.10: bands and rolls of the lot %d", of)
		}
	}
	right := api.Posting{Debit: "a", Credit: "b", Pence: 5}
	if s := (state{postings: []api.Posting{right, {Debit: "a", Credit: "a", Pence: 5}}}); s.balances() {
		t.Errorf("P10.10: postings that are not valid balance")
	}
	if other := (api.Posting{Debit: "a", Credit: "b", Pence: 6}); sameBalances([]api.Posting{right}, []api.Posting{other}) || sameBalances([]api.Posting{right}, nil) || sameBalances(nil, make([]api.Posting, 1)) || !sameBalances([]api.Posting{right}, []api.Posting{right}) {
		t.Errorf("P10.10: balances are compared wrongly")
	}
}
