package blend

import (
	"linoleum/api"
	"linoleum/num"
)

// Bound: see P4.4.
func Bound(b api.Blend, c api.Prices) (api.Rat, api.Errno) {
	if e := validatePrices(b, c); e != api.OK {
		return api.Rat{}, e
	}
	for i, cement := range b.Cements {
		if gain(b, c, i) > c.Den*cement.Cost {
			return api.Rat{}, api.ErrRule
		}
	}
	return num.Make(value(b, c), c.Den)
}

// IsProof: see P4.5.
func IsProof(b api.Blend, c api.Prices) bool {
	if validatePrices(b, c) != api.OK {
		return false
	}
	for i := range b.Cements {
		if gain(b, c, i) > 0 {
			return false
		}
	}
	return value(b, c) > 0
}

// validatePrices examines the blend, and then whether the prices are right for it (P4.4).
func validatePrices(b api.Blend, c api.Prices) api.Errno {
	if e := Validate(b); e != api.OK {
		return e
	}
	if !isFrom(1, api.MaxDen, c.Den) || !isFrom(-api.MaxFactor, api.MaxFactor, c.Y) {
		return api.ErrArg
	}
	props, cements := len(b.Lo), len(b.Cements)
	if !areFrom0(api.MaxFactor, c.U, props) || !areFrom0(api.MaxFactor, c.V, props) || !areFrom0(api.MaxFactor, c.W, cements) {
		return api.ErrArg
	}
	return api.OK
}

// gain returns the gain of right prices at a cement (P4.4).
func gain(b api.Blend, c api.Prices, cement int) int {
	sum := c.Y - c.W[cement]
	for k, prop := range b.Cements[cement].Props {
		sum += prop * (c.U[k] - c.V[k])
	}
	return sum
}

// value returns Den times the value of right prices (P4.4).
func value(b api.Blend, c api.Prices) int {
	sum := c.Y * b.Total
	for k := range b.Lo {
		sum += b.Total * (b.Lo[k]*c.U[k] - b.Hi[k]*c.V[k])
	}
	for i, cement := range b.Cements {
		sum -= cement.Stock * c.W[i]
	}
	return sum
}
