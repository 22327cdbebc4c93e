package book_test

import (
	"math"
	"math/rand"
	"slices"
	"strings"
	"testing"

	"linoleum/api"
	"linoleum/book"
)

func posting(debit, credit string, pence int) api.Posting {
	return api.Posting{Debit: debit, Credit: credit, Pence: pence}
}

func validNames() []string {
	return []string{"a", "z", "a0", "z9", "cash", "stock", "sales", "abcdefgh", "a1234567", "zzzzzzzz", "b2b"}
}

func invalidNames() []string {
	return []string{
		"", " ", "0", "9a", "A", "aB", "Cash", "a b", " a", "a ", "abcdefghi", "a12345678", "a-b", "a_b", "a.b", "é", "aé", "a\x00", "a\n",
		"\xff", "a\xff", "`", "{", "a{", "/a", "a/", "a:", "@", "\u0430", "a\u0661", strings.Repeat("a", 100000),
	}
}

// randomPostings are valid ones.
func randomPostings(random *rand.Rand, n int) []api.Posting {
	names := validNames()
	var list []api.Posting
	for range n {
		i := random.Intn(len(names))
		j := (i + 1 + random.Intn(len(names)-1)) % len(names)
		pence := 1 + random.Intn(500)
		if random.Intn(5) == 0 {
			pence = api.MaxPence - random.Intn(3)
		}
		list = append(list, posting(names[i], names[j], pence))
	}
	return list
}

// checkAccounts compares Balance, Accounts and Trial with P9.5.
func checkAccounts(t *testing.T, l []api.Posting) {
	t.Helper()
	balances := map[string]int{}
	for _, x := range l {
		balances[x.Debit] += x.Pence
		balances[x.Credit] -= x.Pence
	}
	var names []string
	for name := range balances {
		names = append(names, name)
	}
	slices.Sort(names)
	kept := slices.Clone(l)
	if got, e := book.Accounts(l); !slices.Equal(got, names) || e != api.OK {
		t.Errorf("P9.5: Accounts(%v) is %v, %v, not %v", l, got, e, names)
	}
	trial, e := book.Trial(l)
	if len(trial) != len(names) || e != api.OK {
		t.Fatalf("P9.5: Trial(%v) is %v, %v", l, trial, e)
	}
	sum := 0
	for i, name := range names {
		sum += trial[i]
		if trial[i] != balances[name] {
			t.Errorf("P9.5: Trial(%v) is %v", l, trial)
		}
	}
	if sum != 0 {
		t.Errorf("P9.5: the balances of %v add up to %d", l, sum)
	}
	for _, name := range append(validNames(), append(invalidNames(), "none")...) {
		if got, e := book.Balance(l, name); got != balances[name] || e != api.OK {
			t.Errorf("P9.5: Balance(%v, %.20q) is %d, %v, not %d", l, name, got, e, balances[name])
		}
	}
	if !slices.Equal(l, kept) {
		t.Errorf("R5: %v was changed to %v", kept, l)
	}
}

func TestAccounts(t *testing.T) {
	random := rand.New(rand.NewSource(900))
	checkAccounts(t, nil)
	checkAccounts(t, []api.Posting{})
	checkAccounts(t, []api.Posting{posting("b", "a", 1), posting("a", "b", 1)})
	checkAccounts(t, []api.Posting{posting("stock", "cash", 270), posting("cash", "sales", 300), posting("cash", "stock", 20)})
	for range 100 {
		checkAccounts(t, randomPostings(random, random.Intn(20)))
	}
	checkAccounts(t, randomPostings(random, api.MaxPostings))
	var most []api.Posting
	for range api.MaxPostings {
		most = append(most, posting("z", "a", api.MaxPence))
	}
	checkAccounts(t, most)
}

func TestAccountsOfTheExample(t *testing.T) {
	l := []api.Posting{posting("stock", "cash", 270), posting("cash", "sales", 300), posting("cash", "stock", 20)}
	names, e := book.Accounts(l)
	if !slices.Equal(names, []string{"cash", "sales", "stock"}) || e != api.OK {
		t.Errorf("P9.5: Accounts is %v, %v", names, e)
	}
	trial, e := book.Trial(l)
	if !slices.Equal(trial, []int{50, -300, 250}) || e != api.OK {
		t.Errorf("P9.5: Trial is %v, %v", trial, e)
	}
}

// checkRefused compares the error of postings with that of all functions that take them.
func checkRefused(t *testing.T, l []api.Posting, want api.Errno) {
	t.Helper()
	if e := book.Validate(l); e != want {
		t.Errorf("P9.5: Validate(%.300v) is %v, not %v", l, e, want)
	}
	if n, e := book.Balance(l, "cash"); n != 0 || e != want {
		t.Errorf("P9.5: Balance of %.300v is %d, %v, not %v", l, n, e, want)
	}
	if names, e := book.Accounts(l); len(names) != 0 || e != want {
		t.Errorf("P9.5: Accounts(%.300v) is %v, %v, not %v", l, names, e, want)
	}
	if trial, e := book.Trial(l); len(trial) != 0 || e != want {
		t.Errorf("P9.5: Trial(%.300v) is %v, %v, not %v", l, trial, e, want)
	}
}

func wrongPence() []int {
	return []int{0, -1, -270, api.MaxPence + 1, -api.MaxPence, math.MaxInt, math.MinInt}
}

func TestValidate(t *testing.T) {
	random := rand.New(rand.NewSource(901))
	good := posting("cash", "sales", 7)
	for _, name := range validNames() {
		for _, pence := range []int{1, 2, api.MaxPence - 1, api.MaxPence} {
			for _, x := range []api.Posting{posting(name, "other", pence), posting("other", name, pence)} {
				if e := book.Validate([]api.Posting{good, x}); e != api.OK {
					t.Errorf("P9.5: Validate of %v is %v", x, e)
				}
			}
		}
		checkRefused(t, []api.Posting{good, posting(name, name, 1)}, api.ErrArg)
	}
	for _, name := range invalidNames() {
		for _, x := range []api.Posting{posting(name, "cash", 1), posting("cash", name, 1), posting(name, name, 0), posting(name, "cash", -1)} {
			checkRefused(t, []api.Posting{x}, api.ErrName)
			checkRefused(t, []api.Posting{good, x, good}, api.ErrName)
		}
	}
	for _, pence := range wrongPence() {
		checkRefused(t, []api.Posting{posting("cash", "sales", pence)}, api.ErrArg)
		checkRefused(t, []api.Posting{good, good, posting("cash", "sales", pence)}, api.ErrArg)
	}
	for _, l := range [][]api.Posting{nil, {}, {good}, randomPostings(random, api.MaxPostings)} {
		if e := book.Validate(l); e != api.OK {
			t.Errorf("P9.5: Validate(%v) is %v", l, e)
		}
	}
}

// R1: the whole list is examined for one error before the next one.
func TestValidateInOrder(t *testing.T) {
	random := rand.New(rand.NewSource(902))
	unnamed, same, free := posting("cash", "Sales", 7), posting("cash", "cash", 7), posting("cash", "sales", 0)
	checkRefused(t, []api.Posting{same, unnamed}, api.ErrName)
	checkRefused(t, []api.Posting{free, unnamed}, api.ErrName)
	checkRefused(t, []api.Posting{free, posting("cash", "sales", 7)}, api.ErrArg)
	checkRefused(t, []api.Posting{same, posting("cash", "sales", 7)}, api.ErrArg)
	many := randomPostings(random, api.MaxPostings)
	checkRefused(t, append(slices.Clone(many), posting("cash", "sales", 7)), api.ErrLarge)
	checkRefused(t, append(slices.Clone(many), unnamed), api.ErrLarge)
	checkRefused(t, append([]api.Posting{same}, many...), api.ErrLarge)
	checkRefused(t, make([]api.Posting, 1000), api.ErrLarge)
	many[api.MaxPostings-1] = unnamed
	many[0] = free
	checkRefused(t, many, api.ErrName)
}
