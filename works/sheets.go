package works

import (
	"slices"

	"linoleum/api"
	"linoleum/roll"
)

// calender: see P10.4. The run is the band.
func (s *state) calender(name string, of int, run api.Run) api.Errno {
	if !isValidName(name) || slices.Contains(s.names, name) {
		return api.ErrName
	}
	if of >= len(s.lots) {
		return api.ErrNone
	}
	if s.lots[of].Kind != api.Mass {
		return api.ErrRule
	}
	if !isSheet(run) {
		return api.ErrArg
	}
	mass := (run.Length*run.Mark.Thick + 99) / 100
	x := api.Lot{Kind: api.Mass, Mass: mass, Parts: []api.Part{{Lot: of, Mass: mass}}}
	if e := s.add(x); e != api.OK {
		return e
	}
	s.names = append(s.names, name)
	s.sheets = append(s.sheets, sheet{name: name, lot: len(s.lots) - 1, band: []api.Run{run}})
	return api.OK
}

// change puts another band in the place of one that there is (P10.5).
func (s *state) change(name string, changed func([]api.Run) ([]api.Run, api.Errno)) api.Errno {
	i := s.find(name)
	if i < 0 {
		return api.ErrNone
	}
	b, e := changed(s.sheets[i].band)
	if e != api.OK {
		return e
	}
	s.sheets[i].band = b
	return api.OK
}

// cut: see P10.6.
func (s *state) cut(name string, phase int) api.Errno {
	i := s.find(name)
	if i < 0 {
		return api.ErrNone
	}
	x := s.sheets[i]
	cutting, _, e := roll.Best(x.band, s.rules.Articles)
	if e != api.OK {
		return e
	}
	records, e := roll.Records(x.band, s.rules.Articles, cutting, phase, s.rules.Repeat)
	if e != api.OK {
		return e
	}
	for _, record := range records {
		s.rolls = append(s.rolls, Goods{
			Number:  len(s.rolls),
			Lot:     x.lot,
			Phase:   record.Phase,
			Article: record.Article,
			Band:    record.Band,
			Price:   s.rules.Articles[record.Article].Price,
			State:   InStock,
		})
	}
	s.sheets = slices.Delete(s.sheets, i, i+1)
	return api.OK
}

// find returns the index of the band with a name, -1 if there is none.
func (s state) find(name string) int {
	return slices.IndexFunc(s.sheets, func(x sheet) bool { return x.name == name })
}

// isSheet reports whether a run can be calendered.
func isSheet(run api.Run) bool {
	return run.Length >= 1 && run.Length <= api.MaxCut &&
		run.Mark.Thick >= 1 && run.Mark.Thick <= api.MaxThick &&
		run.Mark.Shade >= 0 && run.Mark.Shade <= api.MaxShade
}
