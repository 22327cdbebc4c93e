package works_test

import (
	"math/rand"
	"strings"
	"testing"

	"linoleum/api"
	"linoleum/works"
)

func TestSyntax(t *testing.T) {
	w := first(t)
	refuses(t, w, api.ErrSyntax,
		"", " ", "\n", "x", "order", "RECEIVE oil 5 0", "Turn a", "turns a", "tur a", "turn\ta", " turn a", "turn a ", "turn  a", "turn a\n", "turn a\x00", "turn,a", "turn a;", "1 turn a",
		"receive", "receive oil", "receive oil 5", "receive oil 5 0 0", "receive 5 0", "receive oil 5 0 ", "receive oil  5 0", "receive Oil 5 0", "receive 0 5 0", "receive tar 5 0",
		"receive linoxyn 5 0", "receive cement 5 0", "receive mass 5 0",
		"make", "make mass", "make mass 5", "make mass 5 0", "make mass 5 0 1 2", "make mass 5 0 1 2 3 4", "make 5 0 1", "make mass 5 0 x", "make mass x 0 5", "make mass 5 0 5 ",
		"make oil 5 0 5", "make rosin 5 0 5", "make gum 5 0 5", "make cork 5 0 5", "make pigment 5 0 5", "make Mass 5 0 5", "make 7 5 0 5",
		"calender", "calender b 5 20 100", "calender b 5 20 100 7 1", "calender 5 20 100 7", "calender b- 5 20 100 7", "calender B 5 20 100 7", "calender b_ 5 20 100 7", "calender é 5 20 100 7", "calender  5 20 100 7",
		"flaw a 0 1", "flaw a 0 1 1 1", "flaw a 0 1 x", "flaw 0 1 1", "flaw A 0 1 1", "press a 0 1", "press a 0 1 1 1", "press a a 1 1", "hang a 1", "hang a 1 0 0", "hang a 1 x", "hang a. 1 0",
		"turn", "turn ", "turn A", "turn a b", "turn a 0", "turn a-b", "turn `a`", "cut a", "cut a 0 0", "cut a x", "cut A 0", "cut 0",
		"sell", "sell 0", "sell 0 0 0", "sell a 0", "sell 0 a", "claim", "claim 0", "claim 0 thin", "claim 0 5", "claim 0 thin 5 5", "claim 0 thick 5", "claim 0 Thin 5", "claim thin 0 5", "claim a thin 5", "claim 0 thin a", "claim 0 0 0", "claim 0 crack 1",
		"post cash sales 1d", "thin 0 5",
	)
}

// The numbers of orders are from 0 to 1000000, in the digits of R9.
func TestNumbersOfOrders(t *testing.T) {
	w := first(t)
	for _, number := range []string{"-1", "+1", "-0", "01", "00", "007", "1000001", "9999999", "10000000", "9223372036854775808", "18446744073709551616", "4294967296", "1.0", "1e3", "0x1", "1_0", "a", "١", "five", "1 ", "1/2"} {
		refuses(t, w, api.ErrSyntax,
			"receive oil "+number+" 0", "receive oil 5 "+number, "make mass "+number+" 0 5", "make mass 5 "+number+" 5", "make mass 5 0 "+number, "make mass 5 0 5 1 "+number,
			"calender b "+number+" 20 100 7", "calender b 5 "+number+" 100 7", "calender b 5 20 "+number+" 7", "calender b 5 20 100 "+number,
			"flaw a "+number+" 1 1", "flaw a 0 "+number+" 1", "flaw a 0 1 "+number, "press a "+number+" 1 1", "press a 0 "+number+" 1", "press a 0 1 "+number,
			"hang a "+number+" 0", "hang a 1 "+number, "cut a "+number, "sell "+number+" 0", "sell 0 "+number, "claim "+number+" thin 5", "claim 0 thin "+number, "claim 0 shade "+number, "claim 0 flaw "+number,
		)
	}
	refuses(t, w, api.ErrArg, "receive oil 1000000 0", "receive oil 0 1000000", "flaw a 0 1000000 1", "press a 0 1 1000000", "hang a 1000000 0", "cut a 1000000", "make mass 5 1000000 5")
	refuses(t, w, api.ErrNone, "sell 1000000 0", "claim 1000000 thin 1000000", "calender b 1000000 1000000 1000000 1000000")
	do(t, w, "receive rosin 1 1000000", "cut a 0", "sell 0 1000000", "claim 0 thin 1000000")
}

// A NAME that is no valid name is right as a text, but not that of a band.
func TestNamesInOrders(t *testing.T) {
	w := first(t)
	for _, name := range []string{"b", "1a", "0", "5", "007", "1000001", "abcdefghi", strings.Repeat("z", 60)} {
		refuses(t, w, api.ErrNone, "turn "+name, "cut "+name+" 0", "flaw "+name+" 0 1 1", "press "+name+" 0 1 1", "hang "+name+" 1 0")
	}
	refuses(t, w, api.ErrName, "calender 1a 5 20 100 7", "calender 5 5 20 100 7", "calender abcdefghi 5 20 100 7", "calender "+strings.Repeat("z", 60)+" 5 20 100 7", "calender 0 99 0 0 100")
	do(t, w, "calender turn 5 20 1 7", "turn turn", "calender z1234567 5 20 1 7", "turn z1234567", "calender mass 5 20 1 7", "turn mass")
}

// A text of MaxLine bytes is right, a longer one is not, whatever it would ask for.
func TestLengthOfOrders(t *testing.T) {
	w := first(t)
	refuses(t, w, api.ErrNone, "turn "+strings.Repeat("a", api.MaxLine-5))
	refuses(t, w, api.ErrSyntax, "turn "+strings.Repeat("a", api.MaxLine-4), "turn "+strings.Repeat("a", 10000000), strings.Repeat("turn a ", 100000)+"turn a", strings.Repeat(" ", 1000000))
	many := "make mass 10" + strings.Repeat(" 3 1", 17)
	refuses(t, w, api.ErrLarge, many)
	refuses(t, w, api.ErrSyntax, many+" 3 1")
}

// Texts that are altered at each place are orders just if they are those of the chapter.
func TestAlteredOrders(t *testing.T) {
	random := rand.New(rand.NewSource(1002))
	w := newWorks(t, works.Rules{Repeat: 1})
	orders := append(firstOrders(), "receive gum 1 2", "receive pigment 10 20", "flaw a 10 20 2", "press b2 0 5 18", "hang a 30 0", "turn a", "cut a 4", "sell 10 250", "claim 0 thin 21", "claim 10 shade 8", "claim 7 flaw 15")
	right := 0
	for range 20000 {
		text := spoilt(random, pick(random, orders...))
		e := w.Do(text)
		if want := isOrder(text); (e != api.ErrSyntax) != want {
			t.Fatalf("P10: Do(%q) is %v", text, e)
		} else if want {
			right++
		}
		if strings.Count(w.Book(), "\n") > 10 {
			w = newWorks(t, works.Rules{Repeat: 1})
		}
	}
	if right < 2000 {
		t.Errorf("P10: only %d of the altered texts are orders", right)
	}
}

// A book takes MaxLines orders; then each right text is too much, but a wrong one is still wrong.
func TestLinesOfBook(t *testing.T) {
	w := first(t)
	for range api.MaxLines - len(firstOrders()) {
		do(t, w, "turn a")
	}
	if n := strings.Count(w.Book(), "\n"); n != api.MaxLines {
		t.Errorf("P10: the book has %d lines", n)
	}
	refuses(t, w, api.ErrLarge, "turn a", "turn z", "receive oil 0 0", "receive oil 400 0", "make mass 1 9 1", "calender 1 0 0 0 0", "flaw z 0 0 0", "press z 0 0 0", "hang z 0 0", "cut z 9", "sell 9 0", "claim 9 thin 0")
	refuses(t, w, api.ErrSyntax, "turn", "turn A", "", "receive mass 5 0")
	if !w.Audit() {
		t.Errorf("P10.10: Audit of a full book is false")
	}
}
