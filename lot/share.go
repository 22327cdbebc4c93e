package lot

import (
	"linoleum/api"
	"linoleum/num"
)

// fraction is above divided by the product of below; it is at most 1 and need not be in lowest terms.
type fraction struct {
	above natural
	below []int
}

// Share: see P3.3.
func Share(l []api.Lot, of, in int) (api.Rat, api.Errno) {
	if e := validateNumbers(l, of, in); e != api.OK {
		return api.Rat{}, e
	}
	return sharesOf(l, alone(of))(in).rat()
}

// CompareShare: see P3.3.
func CompareShare(l []api.Lot, of, in int, least api.Rat) (int, api.Errno) {
	if e := validateNumbers(l, of, in); e != api.OK {
		return 0, e
	}
	if !num.Valid(least) {
		return 0, api.ErrArg
	}
	return sharesOf(l, alone(of))(in).compare(least), api.OK
}

// Recall: see P3.5.
func Recall(l []api.Lot, of int, least api.Rat) ([]int, api.Errno) {
	if e := validateNumbers(l, of); e != api.OK {
		return nil, e
	}
	if !num.Valid(least) || least.Num <= 0 {
		return nil, api.ErrArg
	}
	var list []int
	share := sharesOf(l, alone(of))
	for in := range l {
		if share(in).compare(least) >= 0 {
			list = append(list, in)
		}
	}
	return list, api.OK
}

// Kinds: see P3.6.
func Kinds(l []api.Lot, in int) ([]api.Rat, api.Errno) {
	if e := validateNumbers(l, in); e != api.OK {
		return nil, e
	}
	list := make([]api.Rat, api.MaxKinds)
	for kind := range list {
		share := sharesOf(l, func(lot int) bool {
			return isReceived(l[lot]) && l[lot].Kind == kind
		})
		r, e := share(in).rat()
		if e != api.OK {
			return nil, e
		}
		list[kind] = r
	}
	return list, api.OK
}

func alone(of int) func(lot int) bool {
	return func(lot int) bool { return lot == of }
}

// sharesOf returns a function that gives the share in a lot of all lots together that origin accepts.
func sharesOf(l []api.Lot, origin func(lot int) bool) func(in int) fraction {
	below := denominators(l)
	found := map[int]natural{}
	// The share in a lot is kept as its numerator over the denominators of all lots up to that one: so shares are added without their least common denominator.
	var visit func(in int) natural
	visit = func(in int) natural {
		if above, ok := found[in]; ok {
			return above
		}
		var above natural
		if origin(in) {
			above = natural{1}.times(below[:in+1]...)
		} else {
			for _, part := range l[in].Parts {
				share := visit(part.Lot).times(part.Mass)
				above = above.plus(share.times(below[part.Lot+1 : in]...))
			}
		}
		found[in] = above
		return above
	}
	return func(in int) fraction {
		return fraction{above: visit(in), below: below[:in+1]}
	}
}

// denominators returns what each lot divides shares by: what it takes, and 1 if it is received.
func denominators(l []api.Lot) []int {
	list := make([]int, len(l))
	for lot, x := range l {
		list[lot] = max(1, taken(x))
	}
	return list
}

// rat returns ErrLarge if there is no valid fraction with the value.
func (f fraction) rat() (api.Rat, api.Errno) {
	above, below := f.above, 1
	for _, factor := range f.below {
		// The remainder has the same common divisor with the factor as the whole numerator, and dividing by it leaves them without one: in the end the fraction is in lowest terms.
		_, rest := above.divided(factor)
		reduced, _ := num.Make(rest, factor)
		above, _ = above.divided(factor / reduced.Den)
		below *= reduced.Den
		if below > api.MaxDen {
			return api.Rat{}, api.ErrLarge
		}
	}
	// The value is at most 1, so that the numerator is now in the lowest word.
	return num.Make(int(above[0]), below)
}

// compare returns -1, 0 or 1 as the fraction is below, equal to or above r.
func (f fraction) compare(r api.Rat) int {
	if r.Num < 0 {
		return 1
	}
	product := natural{1}.times(f.below...)
	return f.above.times(r.Den).compare(product.times(r.Num))
}
