package works

import (
	"slices"

	"linoleum/api"
	"linoleum/book"
	"linoleum/lot"
)

// Audit: see P10.10.
func (w *Works) Audit() bool {
	if w == nil {
		return false
	}
	s := w.now()
	if !s.keepsMass() || !s.keepsPermit() || !s.isOfMass() || !s.balances() {
		return false
	}
	again, _, e := Replay(s.rules, s.book)
	return e == api.OK && same(s, again.now())
}

// Replay: see P10.11.
func Replay(r Rules, text string) (*Works, int, api.Errno) {
	w, e := New(r)
	if e != api.OK {
		return nil, 0, e
	}
	lines, rest := book.Read(text)
	if rest != "" {
		return nil, 0, api.ErrBroken
	}
	for _, line := range lines {
		if e := w.Do(line.Text); e != api.OK {
			return nil, line.Number, e
		}
	}
	return w, len(lines), api.OK
}

// Run: see P10.12.
func Run(r Rules, orders []string) ([]api.Errno, string, api.Errno) {
	if len(orders) > api.MaxLines {
		return nil, "", api.ErrLarge
	}
	w, e := New(r)
	if e != api.OK {
		return nil, "", e
	}
	var list []api.Errno
	for _, order := range orders {
		list = append(list, w.Do(order))
	}
	return list, w.Book(), api.OK
}

func (s state) keepsMass() bool {
	received, left, lost, air, e := lot.Audit(s.lots)
	return e == api.OK && received+air == left+lost
}

// isOfMass reports whether the lots of all bands and rolls are of the kind Mass.
func (s state) isOfMass() bool {
	isMass := func(of int) bool {
		return of >= 0 && of < len(s.lots) && s.lots[of].Kind == api.Mass
	}
	for _, x := range s.sheets {
		if !isMass(x.lot) {
			return false
		}
	}
	for _, g := range s.rolls {
		if !isMass(g.Lot) {
			return false
		}
	}
	return true
}

// balances reports whether the balances of all accounts add up to 0.
func (s state) balances() bool {
	sum := 0
	list, e := book.Trial(s.postings)
	for _, balance := range list {
		sum += balance
	}
	return e == api.OK && sum == 0
}

// same reports whether two works have equal lots, bands, rolls and balances.
func same(a, b state) bool {
	return slices.EqualFunc(a.lots, b.lots, sameLot) &&
		slices.EqualFunc(a.sheets, b.sheets, sameSheet) &&
		slices.EqualFunc(a.rolls, b.rolls, sameRoll) &&
		sameBalances(a.postings, b.postings)
}

func sameLot(a, b api.Lot) bool {
	return a.Kind == b.Kind && a.Mass == b.Mass && slices.Equal(a.Parts, b.Parts)
}

func sameSheet(a, b sheet) bool {
	return a.name == b.name && a.lot == b.lot && slices.Equal(a.band, b.band)
}

func sameRoll(a, b Goods) bool {
	return a.Number == b.Number && a.Lot == b.Lot && a.Phase == b.Phase && a.Article == b.Article &&
		slices.Equal(a.Band, b.Band) && a.Price == b.Price && a.State == b.State
}

func sameBalances(a, b []api.Posting) bool {
	names, e := book.Accounts(a)
	otherNames, otherE := book.Accounts(b)
	if e != api.OK || otherE != api.OK {
		return false
	}
	// Postings that have accounts have a trial, too.
	balances, _ := book.Trial(a)
	otherBalances, _ := book.Trial(b)
	return slices.Equal(names, otherNames) && slices.Equal(balances, otherBalances)
}
