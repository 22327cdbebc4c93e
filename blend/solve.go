package blend

import (
	"slices"

	"linoleum/api"
)

// Outcome: see the chapter.
type Outcome struct {
	Kind    int
	Amounts api.Amounts
	Prices  api.Prices
}

// Solve: see P4.6.
func Solve(b api.Blend) (Outcome, api.Errno) {
	if e := Validate(b); e != api.OK {
		return Outcome{}, e
	}
	// The prices are raised to the greatest value: then what is left of the conditions gives the least amounts. If they can be raised without end, the direction in which they rise is a proof.
	m := tableau(b)
	column, ends := m.raise()
	if !ends {
		return Outcome{Kind: api.Impossible, Prices: pricesBy(b, 1, m.direction(column))}, api.OK
	}
	return Outcome{
		Kind:    api.Optimal,
		Amounts: amountsBy(b, m.den, m.rest),
		Prices:  pricesBy(b, m.den, m.price),
	}, api.OK
}

// Least: see P4.6.
func Least(b api.Blend) (api.Rat, bool, api.Errno) {
	o, e := Solve(b)
	if e != api.OK || o.Kind != api.Optimal {
		return api.Rat{}, false, e
	}
	cost, e := Cost(b, o.Amounts)
	return cost, e == api.OK, e
}

// tableau returns the matrix of a blend, with all prices and amounts 0.
//
// The columns are the conditions, each with its price: the total from below and from above, the properties from below, then those from above, the stocks, and that no amount is below 0. The price of the last kind is what the gain at a cement lacks to its cost. A row is a cement: with the prices, its numbers add up to its cost.
func tableau(b api.Blend) *matrix {
	cements := len(b.Cements)
	stocks := make([]int, cements)
	m := &matrix{den: 1}
	for i, c := range b.Cements {
		stocks[i] = c.Stock
		m.rows = append(m.rows, slices.Concat(
			[]int{1, -1}, c.Props, times(-1, c.Props), unit(-1, i, cements), unit(1, i, cements), []int{c.Cost},
		))
		m.basis = append(m.basis, firstAmount(b)+i)
	}
	m.rows = append(m.rows, slices.Concat(
		[]int{-b.Total, b.Total}, times(-b.Total, b.Lo), times(b.Total, b.Hi), stocks, make([]int, cements+1),
	))
	return m
}

// firstAmount returns the column of the condition that the first amount is not below 0.
func firstAmount(b api.Blend) int {
	return 2 + 2*len(b.Lo) + len(b.Cements)
}

func times(factor int, list []int) []int {
	out := make([]int, len(list))
	for i, n := range list {
		out[i] = factor * n
	}
	return out
}

// unit returns count numbers that are 0, but for the one at a place.
func unit(n, at, count int) []int {
	out := make([]int, count)
	out[at] = n
	return out
}

// amountsBy reads amounts from what is left of the conditions that they are not below 0.
func amountsBy(b api.Blend, den int, rest func(column int) int) api.Amounts {
	return api.Amounts{Den: den, X: list(firstAmount(b), len(b.Cements), rest)}
}

func pricesBy(b api.Blend, den int, price func(column int) int) api.Prices {
	props, cements := len(b.Lo), len(b.Cements)
	return api.Prices{
		Den: den,
		Y:   price(0) - price(1),
		U:   list(2, props, price),
		V:   list(2+props, props, price),
		W:   list(2+2*props, cements, price),
	}
}

// list returns what is read from count columns.
func list(from, count int, read func(column int) int) []int {
	out := make([]int, count)
	for i := range out {
		out[i] = read(from + i)
	}
	return out
}
