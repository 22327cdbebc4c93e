package works

import (
	"linoleum/api"
	"linoleum/lot"
)

// receive: see P10.2.
func (s *state) receive(kind, mass, pence int) api.Errno {
	if e := s.add(api.Lot{Kind: kind, Mass: mass}); e != api.OK {
		return e
	}
	if !s.keepsPermit() {
		return api.ErrPermit
	}
	return s.post(stockAccount, cashAccount, pence)
}

// makeLot: see P10.3. The pairs are the numbers and masses of the parts.
func (s *state) makeLot(kind, mass int, pairs []int) api.Errno {
	x := api.Lot{Kind: kind, Mass: mass}
	for i := 0; i < len(pairs); i += 2 {
		x.Parts = append(x.Parts, api.Part{Lot: pairs[i], Mass: pairs[i+1]})
	}
	if e := s.add(x); e != api.OK {
		return e
	}
	if !keepsRecipe(s.lots, x) {
		return api.ErrRule
	}
	if !s.keepsPermit() {
		return api.ErrPermit
	}
	return api.OK
}

func (s *state) add(x api.Lot) api.Errno {
	lots, e := lot.Add(s.lots, x)
	if e != api.OK {
		return e
	}
	s.lots = lots
	return api.OK
}

func (s state) keepsPermit() bool {
	return s.stored() <= s.rules.Permit
}

// stored returns what is stored.
func (s state) stored() int {
	sum := 0
	for i, x := range s.lots {
		if x.Kind == api.Oil || x.Kind == api.Linoxyn {
			// The genealogy of a works is valid, and it has this lot.
			left, _ := lot.Left(s.lots, i)
			sum += left
		}
	}
	return sum
}

// keepsRecipe reports whether a made lot of a valid genealogy keeps the recipe of its kind (P10.3).
func keepsRecipe(l []api.Lot, x api.Lot) bool {
	var of [api.MaxKinds]int // what the lot takes of each kind
	all := 0
	for _, part := range x.Parts {
		of[l[part.Lot].Kind] += part.Mass
		all += part.Mass
	}
	// No part is empty: the lot has only parts of some kinds just if these are all that it takes.
	switch x.Kind {
	case api.Linoxyn:
		return of[api.Oil] == all && 8*x.Mass <= 9*all
	case api.Cement:
		return of[api.Linoxyn]+of[api.Rosin]+of[api.Gum] == all && 2*of[api.Linoxyn] >= all
	case api.Mass:
		return of[api.Cement]+of[api.Cork]+of[api.Pigment]+of[api.Mass] == all &&
			(4*of[api.Cement] >= all || of[api.Mass] > 0) &&
			10*of[api.Mass] <= all
	}
	return false
}
