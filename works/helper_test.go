package works_test

import (
	"fmt"
	"math/rand"
	"reflect"
	"slices"
	"testing"

	"linoleum/api"
	"linoleum/works"
)

// rules are those of most tests: one article of 40 places for 300.
func rules() works.Rules {
	sound := api.Query{Least: 18, Most: 22, Shade: -1}
	return works.Rules{Articles: []api.Article{{Length: 40, Query: sound, Price: 300}}, Permit: 300, Repeat: 6}
}

// firstOrders are those of the chapter's example 1.
func firstOrders() []string {
	return []string{"receive oil 100 240", "make linoxyn 110 0 100", "receive rosin 20 0", "make cement 120 1 100 2 20", "receive cork 100 10", "make mass 200 3 100 4 100", "calender a 5 20 100 7"}
}

func newWorks(t *testing.T, r works.Rules) *works.Works {
	t.Helper()
	w, e := works.New(r)
	if w == nil || e != api.OK {
		t.Fatalf("P10.1: New(%v) is %v", r, e)
	}
	return w
}

// made returns a works after orders that it takes.
func made(t *testing.T, r works.Rules, orders ...string) *works.Works {
	t.Helper()
	w := newWorks(t, r)
	do(t, w, orders...)
	return w
}

// first returns a works after the orders of example 1, and more.
func first(t *testing.T, more ...string) *works.Works {
	t.Helper()
	return made(t, rules(), slices.Concat(firstOrders(), more)...)
}

func do(t *testing.T, w *works.Works, orders ...string) {
	t.Helper()
	for _, text := range orders {
		if e := w.Do(text); e != api.OK {
			t.Fatalf("P10: Do(%q) is %v", text, e)
		}
	}
}

// refuses expects that each of some orders is refused with an error, and changes nothing.
func refuses(t *testing.T, w *works.Works, want api.Errno, orders ...string) {
	t.Helper()
	before := seen(w)
	for _, text := range orders {
		if e := w.Do(text); e != want {
			t.Errorf("P10: Do(%.100q) is %v, not %v", text, e, want)
		}
		if after := seen(w); after != before {
			t.Fatalf("P10: the order %.100q is refused, but the works has changed from\n%s to\n%s", text, before, after)
		}
	}
}

// seen is all that a works answers, as a text.
func seen(w *works.Works) string {
	text := fmt.Sprintln(w.Lots(), w.Rolls(), w.Stored(), w.Balance("stock"), w.Balance("cash"), w.Balance("sales"), w.Book())
	for _, name := range w.Bands() {
		b, of, e := w.Band(name)
		text += fmt.Sprintln(name, b, of, e)
	}
	return text
}

func run(length, thick, shade, flaw int) api.Run {
	return api.Run{Length: length, Mark: api.Mark{Thick: thick, Shade: shade, Flaw: flaw}}
}

// hasBand expects a band, and the name among those of the bands that there are.
func hasBand(t *testing.T, w *works.Works, name string, lot int, want ...api.Run) {
	t.Helper()
	if b, of, e := w.Band(name); !slices.Equal(b, want) || of != lot || e != api.OK {
		t.Errorf("P10: the band %s is %v of the lot %v, %v, not %v of %v", name, b, of, e, want, lot)
	}
	if !slices.Contains(w.Bands(), name) {
		t.Errorf("P10.9: the band %s is not one of %v", name, w.Bands())
	}
}

// hasNoBand expects that there is no band with this name.
func hasNoBand(t *testing.T, w *works.Works, name string) {
	t.Helper()
	if b, of, e := w.Band(name); len(b) != 0 || of != 0 || e != api.ErrNone {
		t.Errorf("P10.9: the band %q is %v, %v, %v", name, b, of, e)
	}
	if slices.Contains(w.Bands(), name) {
		t.Errorf("P10.9: the band %q is one of %v", name, w.Bands())
	}
}

// hasBalances expects the balances of the three accounts.
func hasBalances(t *testing.T, w *works.Works, stock, cash, sales int) {
	t.Helper()
	if w.Balance("stock") != stock || w.Balance("cash") != cash || w.Balance("sales") != sales {
		t.Errorf("P10.9: stock, cash and sales are %v, %v, %v, not %v, %v, %v", w.Balance("stock"), w.Balance("cash"), w.Balance("sales"), stock, cash, sales)
	}
}

// alike compares two values; nil and empty slices are the same (R4).
func alike[T any](a, b []T) bool {
	if len(a) == 0 || len(b) == 0 {
		return len(a) == len(b)
	}
	// Printed, a nil slice is an empty one, too.
	return reflect.DeepEqual(a, b) || fmt.Sprint(a) == fmt.Sprint(b)
}

func pick[T any](random *rand.Rand, list ...T) T {
	return list[random.Intn(len(list))]
}
