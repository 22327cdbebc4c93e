package loft

import "linoleum/api"

// Window: see the chapter.
type Window struct {
	From, To int
}

// stay is goods with the fewest days in which they become ripe; 0 days are those of goods that never do.
type stay struct {
	api.Goods
	days int
}

// Days: see P6.9.
func Days(lofts []api.Loft, g api.Goods) (int, bool, api.Errno) {
	if e := validateBoth(lofts, []api.Goods{g}); e != api.OK {
		return 0, false, e
	}
	days := stayOf(lofts, g).days
	return days, days > 0, api.OK
}

// IsProof: see P6.9.
func IsProof(lofts []api.Loft, goods []api.Goods, w Window) bool {
	return validateBoth(lofts, goods) == api.OK && isProof(polesOf(lofts), staysOf(lofts, goods), w)
}

// Prove: see P6.10.
func Prove(lofts []api.Loft, goods []api.Goods) (Window, bool, api.Errno) {
	if e := validateBoth(lofts, goods); e != api.OK {
		return Window{}, false, e
	}
	poles, stays := polesOf(lofts), staysOf(lofts, goods)
	for from := range api.MaxDue + 1 {
		for to := from; to <= api.MaxDue; to++ {
			if w := (Window{From: from, To: to}); isProof(poles, stays, w) {
				return w, true, api.OK
			}
		}
	}
	return Window{}, false, api.OK
}

func isProof(poles int, stays []stay, w Window) bool {
	if !isFrom(0, w.To, w.From) || w.To > api.MaxDue {
		return false
	}
	needed := 0
	for _, s := range stays {
		if s.Ready < w.From || s.Due > w.To {
			continue
		}
		if s.days == 0 {
			return true
		}
		needed += s.Poles * s.days
	}
	return needed > poles*(w.To-w.From)
}

func polesOf(lofts []api.Loft) int {
	sum := 0
	for _, f := range lofts {
		sum += f.Poles
	}
	return sum
}

func staysOf(lofts []api.Loft, goods []api.Goods) []stay {
	var list []stay
	for _, g := range goods {
		list = append(list, stayOf(lofts, g))
	}
	return list
}

func stayOf(lofts []api.Loft, g api.Goods) stay {
	s := stay{Goods: g}
	for _, f := range lofts {
		heats, ok := program(f, g.Need, g.Most)
		if ok && f.Poles >= g.Poles && (s.days == 0 || len(heats) < s.days) {
			s.days = len(heats)
		}
	}
	return s
}
