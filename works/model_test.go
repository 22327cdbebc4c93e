package works_test

import (
	"regexp"
	"slices"
	"strconv"
	"strings"

	"linoleum/api"
	"linoleum/book"
	"linoleum/lot"
	"linoleum/roll"
	"linoleum/works"
)

// model is a second works, which follows the chapter word by word: its bands are kept place by place, its accounts as balances.
type model struct {
	rules    works.Rules
	lots     []api.Lot
	bands    []*modelBand // all that were made
	rolls    []works.Goods
	balances map[string]int
	posted   int
	lines    int
	book     string
}

type modelBand struct {
	name   string
	lot    int
	places []api.Mark
	cut    bool
}

func newModel(r works.Rules) *model {
	return &model{rules: r, balances: map[string]int{}}
}

// The texts of orders, in the order of the chapter.
const (
	numberText = `(0|[1-9][0-9]{0,5}|1000000)`
	nameText   = `([a-z0-9]+)`
)

var orderTexts = []*regexp.Regexp{
	orderText(`receive (oil|rosin|gum|cork|pigment) N N`),
	orderText(`make (linoxyn|cement|mass) N((?: N N)+)`),
	orderText(`calender NAME N N N N`),
	orderText(`flaw NAME N N N`),
	orderText(`press NAME N N N`),
	orderText(`hang NAME N N`),
	orderText(`turn NAME`),
	orderText(`cut NAME N`),
	orderText(`sell N N`),
	orderText(`claim N (thin|shade|flaw) N`),
}

func orderText(s string) *regexp.Regexp {
	s = strings.ReplaceAll(s, "NAME", nameText)
	return regexp.MustCompile(`\A` + strings.ReplaceAll(s, "N", numberText) + `\z`)
}

func isOrder(text string) bool {
	return len(text) <= api.MaxLine && slices.ContainsFunc(orderTexts, func(x *regexp.Regexp) bool { return x.MatchString(text) })
}

// do executes an order, or returns its error and changes nothing.
func (m *model) do(text string) api.Errno {
	if !isOrder(text) {
		return api.ErrSyntax
	}
	if m.lines == api.MaxLines {
		return api.ErrLarge
	}
	words := strings.Split(text, " ")
	var n []int // the numbers, wherever they are
	for _, word := range words[1:] {
		if x, err := strconv.Atoi(word); err == nil {
			n = append(n, x)
		}
	}
	if len(words) > 1 && slices.Contains([]string{"calender", "flaw", "press", "hang", "turn", "cut"}, words[0]) {
		if _, err := strconv.Atoi(words[1]); err == nil {
			n = n[1:] // this one is a name
		}
	}
	e := m.obey(words, n)
	if e == api.OK {
		m.lines++
		m.book, _ = book.Append(m.book, text)
	}
	return e
}

func (m *model) obey(words []string, n []int) api.Errno {
	switch words[0] {
	case "receive":
		return m.receive(kindOf(words[1]), n[0], n[1])
	case "make":
		return m.make(kindOf(words[1]), n[0], n[1:])
	case "calender":
		return m.calender(words[1], n[0], n[1], n[2], n[3])
	case "sell":
		return m.sell(n[0], n[1])
	case "claim":
		return m.claim(n[0], words[2], n[1])
	}
	b := m.band(words[1])
	if b == nil {
		return api.ErrNone
	}
	switch words[0] {
	case "flaw":
		if n[0] > n[1] || n[1] > len(b.places) || n[2] > api.MaxFlaw {
			return api.ErrArg
		}
		return b.alter(func(place int, x *api.Mark) {
			if n[0] <= place && place < n[1] {
				x.Flaw |= n[2]
			}
		})
	case "press":
		if n[0] > n[1] || n[1] > len(b.places) || n[2] < 1 || n[2] > api.MaxThick {
			return api.ErrArg
		}
		return b.alter(func(place int, x *api.Mark) {
			if n[0] <= place && place < n[1] && x.Thick > n[2] {
				x.Thick = n[2]
			}
		})
	case "hang":
		if n[0] < 1 || n[0] > 1000 || n[1] >= 2*n[0] {
			return api.ErrArg
		}
		return b.alter(func(place int, x *api.Mark) {
			if place >= n[1] && (place-n[1])%(2*n[0]) == 0 {
				x.Flaw |= api.PoleMark
			}
		})
	case "turn":
		slices.Reverse(b.places)
		return api.OK
	}
	return m.cut(b, n[0])
}

func kindOf(word string) int {
	return slices.Index([]string{"oil", "rosin", "gum", "cork", "pigment", "linoxyn", "cement", "mass"}, word)
}

func (m *model) receive(kind, mass, pence int) api.Errno {
	l, e := lot.Add(m.lots, api.Lot{Kind: kind, Mass: mass})
	switch {
	case e != api.OK:
		return e
	case storedIn(l) > m.rules.Permit:
		return api.ErrPermit
	case pence > 0 && m.posted == api.MaxPostings:
		return api.ErrLarge
	}
	m.lots = l
	m.post("stock", "cash", pence)
	return api.OK
}

func (m *model) make(kind, mass int, pairs []int) api.Errno {
	x := api.Lot{Kind: kind, Mass: mass}
	for i := 0; i+1 < len(pairs); i += 2 {
		x.Parts = append(x.Parts, api.Part{Lot: pairs[i], Mass: pairs[i+1]})
	}
	l, e := lot.Add(m.lots, x)
	switch {
	case e != api.OK:
		return e
	case !isRecipe(m.lots, x):
		return api.ErrRule
	case storedIn(l) > m.rules.Permit:
		return api.ErrPermit
	}
	m.lots = l
	return api.OK
}

// isRecipe is the recipe of P10.3 word by word.
func isRecipe(l []api.Lot, x api.Lot) bool {
	only := func(kinds ...int) bool {
		for _, p := range x.Parts {
			if !slices.Contains(kinds, l[p.Lot].Kind) {
				return false
			}
		}
		return true
	}
	takes := func(kinds ...int) int {
		sum := 0
		for _, p := range x.Parts {
			if slices.Contains(kinds, l[p.Lot].Kind) {
				sum += p.Mass
			}
		}
		return sum
	}
	all := takes(0, 1, 2, 3, 4, 5, 6, 7)
	switch x.Kind {
	case api.Linoxyn:
		return only(api.Oil) && x.Mass*8 <= all*9
	case api.Cement:
		return only(api.Linoxyn, api.Rosin, api.Gum) && takes(api.Linoxyn)*2 >= all
	}
	scrap := takes(api.Mass)
	if !only(api.Cement, api.Cork, api.Pigment, api.Mass) || scrap*10 > all {
		return false
	}
	return scrap > 0 || takes(api.Cement)*4 >= all
}

func (m *model) calender(name string, from, thick, length, shade int) api.Errno {
	used := slices.ContainsFunc(m.bands, func(b *modelBand) bool { return b.name == name })
	mass := (length * thick) / 100
	if mass*100 < length*thick {
		mass++
	}
	switch {
	case len(name) > api.MaxName || '0' <= name[0] && name[0] <= '9' || used:
		return api.ErrName
	case from >= len(m.lots):
		return api.ErrNone
	case m.lots[from].Kind != api.Mass:
		return api.ErrRule
	case length < 1 || length > api.MaxCut || thick < 1 || thick > api.MaxThick || shade > api.MaxShade:
		return api.ErrArg
	}
	l, e := lot.Add(m.lots, api.Lot{Kind: api.Mass, Mass: mass, Parts: []api.Part{{Lot: from, Mass: mass}}})
	if e != api.OK {
		return e
	}
	m.lots = l
	places := slices.Repeat([]api.Mark{{Thick: thick, Shade: shade}}, length)
	m.bands = append(m.bands, &modelBand{name: name, lot: len(l) - 1, places: places})
	return api.OK
}

func (m *model) cut(b *modelBand, phase int) api.Errno {
	if phase >= m.rules.Repeat {
		return api.ErrArg
	}
	cutting, _, _ := roll.Best(runsOf(b.places), m.rules.Articles)
	for _, x := range cutting {
		a := m.rules.Articles[x.Article]
		m.rolls = append(m.rolls, works.Goods{
			Number: len(m.rolls), Lot: b.lot, Phase: (phase + x.From) % m.rules.Repeat, Article: x.Article,
			Band: runsOf(b.places[x.From : x.From+a.Length]), Price: a.Price, State: works.InStock,
		})
	}
	b.cut = true
	return api.OK
}

func (m *model) sell(number, pence int) api.Errno {
	switch {
	case number >= len(m.rolls):
		return api.ErrNone
	case m.rolls[number].State != works.InStock:
		return api.ErrState
	case pence > 0 && m.posted == api.MaxPostings:
		return api.ErrLarge
	}
	m.rolls[number].State, m.rolls[number].Price = works.Sold, pence
	m.post("cash", "sales", pence)
	return api.OK
}

func (m *model) claim(number int, what string, n int) api.Errno {
	if number >= len(m.rolls) {
		return api.ErrNone
	}
	g := &m.rolls[number]
	right := slices.ContainsFunc(g.Band, func(x api.Run) bool {
		switch what {
		case "thin":
			return x.Mark.Thick < n
		case "shade":
			return x.Mark.Shade != n
		}
		return x.Mark.Flaw&n != 0
	})
	switch {
	case g.State != works.Sold:
		return api.ErrState
	case !right:
		return api.ErrRule
	case g.Price > 0 && m.posted == api.MaxPostings:
		return api.ErrLarge
	}
	g.State = works.Returned
	m.post("sales", "cash", g.Price)
	return api.OK
}

func (m *model) post(debit, credit string, pence int) {
	if pence > 0 {
		m.balances[debit] += pence
		m.balances[credit] -= pence
		m.posted++
	}
}

// band returns the band with a name, nil if there is none.
func (m *model) band(name string) *modelBand {
	for _, b := range m.bands {
		if b.name == name && !b.cut {
			return b
		}
	}
	return nil
}

// names returns the names of the bands that there are.
func (m *model) names() []string {
	var list []string
	for _, b := range m.bands {
		if !b.cut {
			list = append(list, b.name)
		}
	}
	return list
}

// alter changes the places of a band, unless they would need too many runs.
func (b *modelBand) alter(change func(place int, x *api.Mark)) api.Errno {
	places := slices.Clone(b.places)
	for i := range places {
		change(i, &places[i])
	}
	if len(runsOf(places)) > api.MaxRuns {
		return api.ErrLarge
	}
	b.places = places
	return api.OK
}

// runsOf returns the normal band with these places.
func runsOf(places []api.Mark) []api.Run {
	var b []api.Run
	for i, x := range places {
		if i == 0 || x != places[i-1] {
			b = append(b, api.Run{Mark: x})
		}
		b[len(b)-1].Length++
	}
	return b
}

// storedIn is what is stored, added up place by place.
func storedIn(l []api.Lot) int {
	sum := 0
	for i, x := range l {
		if x.Kind != api.Oil && x.Kind != api.Linoxyn {
			continue
		}
		sum += x.Mass
		for _, y := range l {
			for _, p := range y.Parts {
				if p.Lot == i {
					sum -= p.Mass
				}
			}
		}
	}
	return sum
}
