package works

import (
	"strconv"
	"strings"

	"linoleum/api"
)

const maxNumber = 1000000

// The kinds of orders.
const (
	receiveOrder = iota
	makeOrder
	calenderOrder
	flawOrder
	pressOrder
	hangOrder
	turnOrder
	cutOrder
	sellOrder
	claimOrder
)

// The kinds of claims.
const (
	thinClaim = iota
	shadeClaim
	flawClaim
)

// order is an order whose text was read. An order of a kind has as many numbers as its text.
type order struct {
	kind    int
	what    int    // the kind of the lot, or of the claim
	name    string // of the band
	numbers []int
}

// parse returns the order with this text; false if there is none.
func parse(text string) (order, bool) {
	r := reader{words: strings.Split(text, " ")}
	o := r.order()
	return o, !r.failed && len(r.words) == 0
}

// reader has the words of an order that are not read yet. It has failed if one was not what it should be.
type reader struct {
	words  []string
	failed bool
}

func (r *reader) order() order {
	switch r.word() {
	case "receive":
		return order{kind: receiveOrder, what: r.lotKind(api.Oil, api.Pigment), numbers: r.count(2)}
	case "make":
		return order{kind: makeOrder, what: r.lotKind(api.Linoxyn, api.Mass), numbers: r.masses()}
	case "calender":
		return order{kind: calenderOrder, name: r.name(), numbers: r.count(4)}
	case "flaw":
		return order{kind: flawOrder, name: r.name(), numbers: r.count(3)}
	case "press":
		return order{kind: pressOrder, name: r.name(), numbers: r.count(3)}
	case "hang":
		return order{kind: hangOrder, name: r.name(), numbers: r.count(2)}
	case "turn":
		return order{kind: turnOrder, name: r.name()}
	case "cut":
		return order{kind: cutOrder, name: r.name(), numbers: r.count(1)}
	case "sell":
		return order{kind: sellOrder, numbers: r.count(2)}
	case "claim":
		roll := r.number()
		what := r.claim()
		return order{kind: claimOrder, what: what, numbers: []int{roll, r.number()}}
	}
	r.failed = true
	return order{}
}

// word returns the next word, an empty one if there is none: that is never what it should be.
func (r *reader) word() string {
	if len(r.words) == 0 {
		return ""
	}
	word := r.words[0]
	r.words = r.words[1:]
	return word
}

// lotKind reads the word of a kind of lots from least to most.
func (r *reader) lotKind(least, most int) int {
	words := [api.MaxKinds]string{
		api.Oil: "oil", api.Rosin: "rosin", api.Gum: "gum", api.Cork: "cork", api.Pigment: "pigment",
		api.Linoxyn: "linoxyn", api.Cement: "cement", api.Mass: "mass",
	}
	word := r.word()
	for kind := least; kind <= most; kind++ {
		if words[kind] == word {
			return kind
		}
	}
	r.failed = true
	return 0
}

func (r *reader) claim() int {
	switch r.word() {
	case "thin":
		return thinClaim
	case "shade":
		return shadeClaim
	case "flaw":
		return flawClaim
	}
	r.failed = true
	return 0
}

// name reads a NAME, which need not be a valid name.
func (r *reader) name() string {
	word := r.word()
	if word == "" {
		r.failed = true
	}
	for _, c := range word {
		if !isLetter(c) && (c < '0' || c > '9') {
			r.failed = true
		}
	}
	return word
}

func (r *reader) number() int {
	word := r.word()
	n, err := strconv.Atoi(word)
	// Atoi also takes signs and leading zeros: only what is written for the number counts.
	if err != nil || n < 0 || n > maxNumber || strconv.Itoa(n) != word {
		r.failed = true
		return 0
	}
	return n
}

// count reads so many numbers.
func (r *reader) count(count int) []int {
	numbers := make([]int, count)
	for i := range numbers {
		numbers[i] = r.number()
	}
	return numbers
}

// masses reads the mass of a lot, and the pairs of its parts up to the end of the order.
func (r *reader) masses() []int {
	numbers := r.count(3)
	for len(r.words) > 0 {
		numbers = append(numbers, r.count(2)...)
	}
	return numbers
}

func isLetter(c rune) bool {
	return 'a' <= c && c <= 'z'
}

// isValidName reports whether a NAME is a valid name.
func isValidName(name string) bool {
	return len(name) <= api.MaxName && isLetter(rune(name[0]))
}
