package floor

import (
	"cmp"
	"slices"

	"linoleum/api"
)

// plan is cuts and what they cost: places of a roll, or rolls. The plans of a list are by the sets of strips that they cut: a set is a number in which the bit 1 << n stands for the strip n.
type plan struct {
	found bool // the zero value is no plan
	cost  int
	cuts  []api.Cut
}

// Fewest: see P8.7.
func Fewest(j Job) ([]api.Cut, int, bool, api.Errno) {
	if e := ValidateJob(j); e != api.OK {
		return nil, 0, false, e
	}
	if len(j.Strips) == 0 {
		return nil, 0, true, api.OK
	}
	var best plan
	for _, r := range j.Rolls {
		if p := j.fewest(r.Shade); p.found && best.isAbove(p.cost) {
			best = p
		}
	}
	return best.cuts, best.cost, best.found, api.OK
}

// LowerBound: see P8.7.
func LowerBound(j Job) (int, bool, api.Errno) {
	if e := ValidateJob(j); e != api.OK {
		return 0, false, e
	}
	if len(j.Strips) == 0 {
		return 0, true, api.OK
	}
	longest := slices.Clone(j.Rolls)
	slices.SortFunc(longest, func(a, b api.Roll) int { return cmp.Compare(b.Length, a.Length) })
	least, found := 0, false
	for _, r := range longest {
		if n, ok := enough(longest, r.Shade, total(j.Strips)); ok && (!found || n < least) {
			least, found = n, true
		}
	}
	return least, found, api.OK
}

// enough returns how many of the first rolls of a shade have a length together, which is above 0.
func enough(rolls []api.Roll, shade, length int) (int, bool) {
	count, sum := 0, 0
	for _, r := range rolls {
		if r.Shade != shade {
			continue
		}
		count++
		sum += r.Length
		if sum >= length {
			return count, true
		}
	}
	return 0, false
}

// fewest returns a plan that cuts all strips from the fewest rolls of a shade.
func (j Job) fewest(shade int) plan {
	plans := j.noPlans()
	for n, r := range j.Rolls {
		if r.Shade == shade {
			plans = withRoll(plans, j.tight(n))
		}
	}
	return plans[len(plans)-1]
}

// noPlans returns a list that has a plan for no strips alone.
func (j Job) noPlans() []plan {
	plans := make([]plan, 1<<len(j.Strips))
	plans[0].found = true
	return plans
}

// withRoll returns the cheapest plans, by their rolls, when there is one more roll; tight has the plans for that roll alone.
func withRoll(plans, tight []plan) []plan {
	list := slices.Clone(plans)
	for before, p := range plans {
		for more, q := range tight {
			if !p.found || !q.found || before&more != 0 {
				continue
			}
			if all := before | more; list[all].isAbove(p.cost + 1) {
				list[all] = p.then(p.cost+1, q.cuts...)
			}
		}
	}
	return list
}

// tight returns the plans for one roll that end at the smallest place. Such a plan is one for all strips but its last one, and then that one at the next place: if the others end earlier, it does not end later.
func (j Job) tight(roll int) []plan {
	plans := j.noPlans()
	r := j.Rolls[roll]
	for all := range plans {
		for n, s := range j.Strips {
			before := plans[all&^(1<<n)]
			if all&(1<<n) == 0 || !before.found {
				continue
			}
			c := api.Cut{Strip: n, Roll: roll, At: next(r, j.Repeat, before.cost, s)}
			if end := j.places(c).To; end <= r.Length && plans[all].isAbove(end) {
				plans[all] = before.then(end, c)
			}
		}
	}
	return plans
}

// isAbove reports whether there is no plan that costs at most that much.
func (p plan) isAbove(cost int) bool {
	return !p.found || p.cost > cost
}

// then returns a plan with more cuts.
func (p plan) then(cost int, more ...api.Cut) plan {
	// Several plans go on from this one: kept has no room behind it, so that none of them writes where another one does.
	kept := p.cuts[:len(p.cuts):len(p.cuts)]
	return plan{found: true, cost: cost, cuts: append(kept, more...)}
}
