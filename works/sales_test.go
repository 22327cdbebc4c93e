package works_test

import (
	"fmt"
	"testing"

	"linoleum/api"
	"linoleum/works"
)

// inState expects the price and the state of a roll.
func inState(t *testing.T, w *works.Works, number, price, state int) {
	t.Helper()
	if g := w.Rolls()[number]; g.Price != price || g.State != state {
		t.Errorf("P10: the roll %d is %v, not with the price %d in the state %d", number, g, price, state)
	}
}

func TestStates(t *testing.T) {
	if works.InStock != 0 || works.Sold != 1 || works.Returned != 2 {
		t.Errorf("P10: the states are %d, %d, %d", works.InStock, works.Sold, works.Returned)
	}
}

func TestSell(t *testing.T) {
	w := first(t, "cut a 0", "sell 1 250")
	inState(t, w, 0, 300, works.InStock)
	inState(t, w, 1, 250, works.Sold)
	hasBalances(t, w, 250, 0, -250)
	do(t, w, "sell 0 0")
	inState(t, w, 0, 0, works.Sold)
	hasBalances(t, w, 250, 0, -250)
	refuses(t, w, api.ErrState, "sell 0 1", "sell 0 0", "sell 1 250")
	refuses(t, w, api.ErrNone, "sell 2 1", "sell 1000000 0")
	refuses(t, newWorks(t, rules()), api.ErrNone, "sell 0 1", "claim 0 thin 1")
}

func TestClaim(t *testing.T) {
	w := first(t, "cut a 0", "sell 0 300", "sell 1 0")
	hasBalances(t, w, 250, 50, -300)
	do(t, w, "claim 0 thin 21")
	inState(t, w, 0, 300, works.Returned)
	hasBalances(t, w, 250, -250, 0)
	do(t, w, "claim 1 shade 6")
	inState(t, w, 1, 0, works.Returned)
	hasBalances(t, w, 250, -250, 0)
	refuses(t, w, api.ErrState, "claim 0 thin 21", "claim 1 shade 6", "sell 0 5", "sell 1 0")
}

// What comes back is what was paid, not what the article costs.
func TestClaimOfPrice(t *testing.T) {
	w := first(t, "cut a 0", "sell 0 123", "sell 1 1000", "claim 0 thin 1000000")
	inState(t, w, 0, 123, works.Returned)
	hasBalances(t, w, 250, 750, -1000)
}

func TestClaimRefuses(t *testing.T) {
	w := first(t, "cut a 0")
	refuses(t, w, api.ErrNone, "claim 2 thin 21", "claim 1000000 flaw 0")
	refuses(t, w, api.ErrState, "claim 0 thin 21", "claim 1 thin 20")
	do(t, w, "sell 0 5")
	refuses(t, w, api.ErrRule, "claim 0 thin 20", "claim 0 thin 0", "claim 0 shade 7", "claim 0 flaw 0", "claim 0 flaw 15", "claim 0 flaw 1000000")
	refuses(t, w, api.ErrState, "claim 1 thin 21")
}

// Which claims about a roll with several places are right.
func TestRightClaims(t *testing.T) {
	r := rules()
	r.Articles = []api.Article{{Length: 20, Query: api.Query{Least: 1, Most: 1000, Shade: -1, Flaws: api.MaxFlaw}, Price: 300}}
	for _, x := range []struct {
		claim string
		right bool
	}{
		{"thin 15", false}, {"thin 16", true}, {"thin 20", true}, {"thin 1000000", true}, {"thin 0", false}, {"thin 1", false},
		{"shade 7", false}, {"shade 0", true}, {"shade 99", true}, {"shade 1000000", true},
		{"flaw 0", false}, {"flaw 1", false}, {"flaw 2", true}, {"flaw 3", true}, {"flaw 4", true}, {"flaw 8", false}, {"flaw 9", false}, {"flaw 15", true}, {"flaw 16", false}, {"flaw 24", false}, {"flaw 22", true}, {"flaw 1000000", false}, {"flaw 999998", true},
	} {
		w := made(t, r, append(firstOrders(), "calender b 5 20 20 7", "press b 7 9 15", "flaw b 19 20 4", "flaw b 0 1 2", "cut b 0", "sell 0 9")...)
		text := "claim 0 " + x.claim
		if !x.right {
			refuses(t, w, api.ErrRule, text)
			inState(t, w, 0, 9, works.Sold)
			continue
		}
		do(t, w, text)
		inState(t, w, 0, 9, works.Returned)
		hasBalances(t, w, 250, -250, 0)
	}
}

// Claims about all rolls of a band, compared with their places.
func TestClaimsOfFlaws(t *testing.T) {
	r := rules()
	r.Articles = []api.Article{{Length: 1, Query: api.Query{Most: 1000, Shade: -1, Flaws: api.MaxFlaw}, Price: 1}}
	for flaw := range 16 {
		w := made(t, r, append(firstOrders(), "calender b 5 20 16 7")...)
		for place := range 16 {
			do(t, w, fmt.Sprint("flaw b ", place, " ", place+1, " ", place))
		}
		do(t, w, "cut b 0")
		for place := range 16 {
			do(t, w, fmt.Sprint("sell ", place, " 0"))
			want := api.ErrRule
			if place&flaw != 0 {
				want = api.OK
			}
			if e := w.Do(fmt.Sprint("claim ", place, " flaw ", flaw)); e != want {
				t.Errorf("P10.8: a claim of %d for a roll with %d is %v", flaw, place, e)
			}
		}
	}
}
