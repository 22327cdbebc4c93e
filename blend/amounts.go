package blend

import (
	"linoleum/api"
	"linoleum/num"
)

const maxWeight = 1 << 20

// Cost: see P4.2.
func Cost(b api.Blend, x api.Amounts) (api.Rat, api.Errno) {
	if e := validateAmounts(b, x); e != api.OK {
		return api.Rat{}, e
	}
	sum := 0
	for i, c := range b.Cements {
		sum += c.Cost * x.X[i]
	}
	return num.Make(sum, x.Den)
}

// Property: see P4.2.
func Property(b api.Blend, x api.Amounts, prop int) (api.Rat, api.Errno) {
	if e := validateAmounts(b, x); e != api.OK {
		return api.Rat{}, e
	}
	if !isProperty(b, prop) {
		return api.Rat{}, api.ErrNone
	}
	return num.Make(propertySum(b, x, prop), b.Total*x.Den)
}

// Check: see P4.3.
func Check(b api.Blend, x api.Amounts) api.Errno {
	if e := validateAmounts(b, x); e != api.OK {
		return e
	}
	sum := 0
	for i, c := range b.Cements {
		if x.X[i] > c.Stock*x.Den {
			return api.ErrShort
		}
		sum += x.X[i]
	}
	if sum != b.Total*x.Den {
		return api.ErrFit
	}
	for k := range b.Lo {
		if !isFrom(b.Lo[k]*sum, b.Hi[k]*sum, propertySum(b, x, k)) {
			return api.ErrRule
		}
	}
	return api.OK
}

// Whole: see P4.7.
func Whole(b api.Blend, x api.Amounts) ([]int, api.Errno) {
	if e := Check(b, x); e != api.OK {
		return nil, e
	}
	// Amounts that add up to a total have one above 0.
	common := 0
	for _, amount := range x.X {
		common = divisor(common, amount)
	}
	weights := make([]int, len(x.X))
	for i, amount := range x.X {
		weights[i] = amount / common
		if weights[i] > maxWeight {
			return nil, api.ErrLarge
		}
	}
	return num.Share(b.Total, weights)
}

// validateAmounts examines the blend, and then whether the amounts are right for it (P4.2).
func validateAmounts(b api.Blend, x api.Amounts) api.Errno {
	if e := Validate(b); e != api.OK {
		return e
	}
	if !isFrom(1, api.MaxDen, x.Den) || !areFrom0(api.MaxFactor, x.X, len(b.Cements)) {
		return api.ErrArg
	}
	return api.OK
}

// propertySum returns Den times the sum of the property over right amounts.
func propertySum(b api.Blend, x api.Amounts, prop int) int {
	sum := 0
	for i, c := range b.Cements {
		sum += c.Props[prop] * x.X[i]
	}
	return sum
}

// divisor returns the greatest common divisor of numbers from 0 on; that of 0 and a number is the number.
func divisor(a, b int) int {
	for b != 0 {
		a, b = b, a%b
	}
	return a
}
