package book

import (
	"slices"

	"linoleum/api"
)

// account is one of the two accounts of a posting.
type account interface {
	name() string
}

type (
	debited  api.Posting
	credited api.Posting
)

func (x debited) name() string  { return x.Debit }
func (x credited) name() string { return x.Credit }

// gain returns what the posting of an account adds to its balance.
func gain(a account) int {
	switch x := a.(type) {
	case debited:
		return x.Pence
	case credited:
		return -x.Pence
	}
	return 0
}

// accountsOf returns the accounts of postings, each as often as it is posted.
func accountsOf(l []api.Posting) []account {
	var list []account
	for _, x := range l {
		list = append(list, debited(x), credited(x))
	}
	return list
}

// Validate: see P9.5.
func Validate(l []api.Posting) api.Errno {
	if len(l) > api.MaxPostings {
		return api.ErrLarge
	}
	for _, x := range l {
		if !isName(x.Debit) || !isName(x.Credit) {
			return api.ErrName
		}
	}
	for _, x := range l {
		if x.Debit == x.Credit || x.Pence < 1 || x.Pence > api.MaxPence {
			return api.ErrArg
		}
	}
	return api.OK
}

// Balance: see P9.5.
func Balance(l []api.Posting, account string) (int, api.Errno) {
	if e := Validate(l); e != api.OK {
		return 0, e
	}
	return balanceOf(l, account), api.OK
}

// Accounts: see P9.5.
func Accounts(l []api.Posting) ([]string, api.Errno) {
	if e := Validate(l); e != api.OK {
		return nil, e
	}
	return namesOf(l), api.OK
}

// Trial: see P9.5.
func Trial(l []api.Posting) ([]int, api.Errno) {
	if e := Validate(l); e != api.OK {
		return nil, e
	}
	var balances []int
	for _, name := range namesOf(l) {
		balances = append(balances, balanceOf(l, name))
	}
	return balances, api.OK
}

func balanceOf(l []api.Posting, name string) int {
	balance := 0
	for _, a := range accountsOf(l) {
		if a.name() == name {
			balance += gain(a)
		}
	}
	return balance
}

// namesOf returns the names of the accounts, each once, in ascending order.
func namesOf(l []api.Posting) []string {
	var names []string
	for _, a := range accountsOf(l) {
		names = append(names, a.name())
	}
	slices.Sort(names)
	return slices.Compact(names)
}

// isName reports whether a text is a valid name.
func isName(text string) bool {
	if text == "" || len(text) > api.MaxName {
		return false
	}
	for i, c := range text {
		letter := 'a' <= c && c <= 'z'
		digit := '0' <= c && c <= '9'
		if !letter && (!digit || i == 0) {
			return false
		}
	}
	return true
}
