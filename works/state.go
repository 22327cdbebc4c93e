package works

import (
	"slices"
	"strconv"

	"linoleum/api"
	"linoleum/band"
	"linoleum/book"
	"linoleum/loft"
)

// state is what a works has at a moment. It is not changed when it has become that of a works.
type state struct {
	rules    Rules
	lots     []api.Lot
	names    []string // of all bands that were made
	sheets   []sheet
	rolls    []Goods
	postings []api.Posting
	book     string
}

// sheet is a band with its name and its lot.
type sheet struct {
	name string
	lot  int
	band []api.Run
}

// refusal is an order that was refused.
type refusal struct {
	order  string
	reason api.Errno
}

func (r refusal) Error() string {
	return "refused with error " + strconv.Itoa(int(r.reason)) + ": " + r.order
}

// after returns the state after an order, or a refusal.
func (s state) after(text string) (state, error) {
	// The lists are copied, their elements are not: an order replaces elements, but writes into nothing that they refer to.
	s.lots = slices.Clone(s.lots)
	s.names = slices.Clone(s.names)
	s.sheets = slices.Clone(s.sheets)
	s.rolls = slices.Clone(s.rolls)
	s.postings = slices.Clone(s.postings)
	if e := s.do(text); e != api.OK {
		return state{}, refusal{order: text, reason: e}
	}
	return s, nil
}

// do executes an order. With an error, the state is of no use any more.
func (s *state) do(text string) api.Errno {
	// An empty book has room for a line: what it does not take is not a right text.
	if _, e := book.Append("", text); e != api.OK {
		return api.ErrSyntax
	}
	o, ok := parse(text)
	if !ok {
		return api.ErrSyntax
	}
	longer, e := book.Append(s.book, text)
	if e != api.OK {
		return e
	}
	s.book = longer
	return s.obey(o)
}

func (s *state) obey(o order) api.Errno {
	n := o.numbers
	switch o.kind {
	case receiveOrder:
		return s.receive(o.what, n[0], n[1])
	case makeOrder:
		return s.makeLot(o.what, n[0], n[1:])
	case calenderOrder:
		mark := api.Mark{Thick: n[1], Shade: n[3]}
		return s.calender(o.name, n[0], api.Run{Length: n[2], Mark: mark})
	case flawOrder:
		return s.change(o.name, func(b []api.Run) ([]api.Run, api.Errno) {
			return band.Flaw(b, n[0], n[1], n[2])
		})
	case pressOrder:
		return s.change(o.name, func(b []api.Run) ([]api.Run, api.Errno) {
			return band.Press(b, n[0], n[1], n[2])
		})
	case hangOrder:
		return s.change(o.name, func(b []api.Run) ([]api.Run, api.Errno) {
			return loft.Chalk(b, loft.Hanging{Drop: n[0], Shift: n[1]})
		})
	case turnOrder:
		return s.change(o.name, band.Reverse)
	case cutOrder:
		return s.cut(o.name, n[0])
	case sellOrder:
		return s.sell(n[0], n[1])
	case claimOrder:
		return s.claim(n[0], promised(o.what, n[1]))
	}
	return api.ErrSyntax
}

// post adds a posting, unless it is one of nothing.
func (s *state) post(debit, credit string, pence int) api.Errno {
	if pence == 0 {
		return api.OK
	}
	if len(s.postings) == api.MaxPostings {
		return api.ErrLarge
	}
	s.postings = append(s.postings, api.Posting{Debit: debit, Credit: credit, Pence: pence})
	return api.OK
}
