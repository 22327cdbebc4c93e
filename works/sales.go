package works

import (
	"slices"

	"linoleum/api"
	"linoleum/band"
)

// The accounts of the works.
const (
	stockAccount = "stock"
	cashAccount  = "cash"
	salesAccount = "sales"
)

// sell: see P10.7.
func (s *state) sell(number, pence int) api.Errno {
	if e := s.expect(number, InStock); e != api.OK {
		return e
	}
	s.rolls[number].State = Sold
	s.rolls[number].Price = pence
	return s.post(cashAccount, salesAccount, pence)
}

// claim: see P10.8. The claim is that a place of the roll does not meet what was promised.
func (s *state) claim(number int, promise api.Query) api.Errno {
	if e := s.expect(number, Sold); e != api.OK {
		return e
	}
	broken := slices.ContainsFunc(s.rolls[number].Band, func(run api.Run) bool {
		return !band.Holds(promise, run.Mark)
	})
	if !broken {
		return api.ErrRule
	}
	s.rolls[number].State = Returned
	return s.post(salesAccount, cashAccount, s.rolls[number].Price)
}

// expect returns OK if there is a roll and it is in this state.
func (s state) expect(number, want int) api.Errno {
	if number >= len(s.rolls) {
		return api.ErrNone
	}
	if s.rolls[number].State != want {
		return api.ErrState
	}
	return api.OK
}

// promised returns the query that the places meet about which a claim with this number is not right.
func promised(claim, n int) api.Query {
	q := api.Query{Most: api.MaxThick, Shade: -1, Flaws: api.MaxFlaw}
	switch claim {
	case thinClaim:
		q.Least = n
	case shadeClaim:
		q.Shade = n
	case flawClaim:
		q.Flaws = ^n
	}
	return q
}
