package pattern_test

import (
	"math/rand"
	"regexp"
	"slices"
	"strconv"
	"strings"
	"testing"

	"linoleum/api"
	"linoleum/pattern"
)

// written is a pattern as `grid`, whether it is the least one or not.
func written(p api.Pattern) string {
	var rows []string
	for row := range slices.Chunk(p.Cells, p.A) {
		digits := ""
		for _, c := range row {
			digits += strconv.Itoa(c)
		}
		rows = append(rows, digits)
	}
	return strings.Join([]string{"grid", strconv.Itoa(p.A), strconv.Itoa(p.B), strconv.Itoa(p.C), strings.Join(rows, "/")}, " ")
}

func TestFormat(t *testing.T) {
	for _, p := range slices.Concat(cases(), smalls()) {
		text, e := pattern.Format(p)
		if text != written(least(p)) || e != api.OK {
			t.Fatalf("P5.7: Format(%v) is %q, %v", p, text, e)
		}
		// S6: a pattern by its text and by its least repeat.
		if again, e := pattern.Parse(text); !same(again, least(p)) || e != api.OK {
			t.Fatalf("P5.8: Parse(%q) is %v, %v", text, again, e)
		}
		if again, e := pattern.Parse(written(p)); !same(again, least(p)) || e != api.OK {
			t.Fatalf("P5.8: Parse(%q) is %v, %v", written(p), again, e)
		}
	}
	for _, x := range []struct {
		p    api.Pattern
		want string
	}{
		{chess(), "grid 2 1 1 01"}, {wall(), "grid 4 2 4 1112/1112/1112/2222"}, {zeros(12, 5, 12, 144), "grid 1 0 1 0"},
		{grid(1, 0, 3, 7, 0, 2), "grid 1 0 3 7/0/2"}, {plain(144, 143, 1, 0, 7), "grid 144 143 1 7" + strings.Repeat("0", 143)}, {plain(1, 0, 144, 143, 7), "grid 1 0 144 " + strings.Repeat("0/", 143) + "7"},
	} {
		if text, e := pattern.Format(x.p); text != x.want || e != api.OK {
			t.Errorf("P5.7: Format(%v) is %q, %v", x.p, text, e)
		}
	}
}

func TestParse(t *testing.T) {
	for _, x := range []struct {
		text string
		want api.Pattern
	}{
		{"grid 1 0 1 0", grid(1, 0, 1, 0)},
		{"grid 4 0 2 0101/1010", grid(2, 1, 1, 0, 1)},
		{"grid 3 2 1 765", grid(3, 2, 1, 7, 6, 5)},
		{"bricks 2 2 0 01/10", grid(2, 1, 1, 0, 1)},
		{"bricks 3 2 1 120/300", grid(3, 1, 2, 1, 2, 0, 3, 0, 0)},
		{"bricks 3 2 4 120/300", grid(3, 1, 2, 1, 2, 0, 3, 0, 0)},
		{"bricks 3 2 -2 120/300", grid(3, 1, 2, 1, 2, 0, 3, 0, 0)},
		{"bricks 3 1 -3 012", grid(3, 0, 1, 0, 1, 2)},
		{"bricks 3 1 100000 012", grid(3, 1, 1, 0, 1, 2)},
		{"bricks 3 1 -100000 012", grid(3, 2, 1, 0, 1, 2)},
		{"bricks 4 4 2 1112/1112/1112/2222", wall()},
		{"shift 1 0 ( grid 3 0 2 120/300 )", grid(3, 0, 2, 0, 1, 2, 0, 3, 0)},
		{"shift 0 1 ( grid 3 0 2 120/300 )", grid(3, 0, 2, 3, 0, 0, 1, 2, 0)},
		{"shift 100000 -100000 ( grid 3 0 2 120/300 )", grid(3, 0, 2, 0, 1, 2, 0, 3, 0)},
		{"turn ( grid 3 0 2 120/300 )", grid(2, 0, 3, 1, 3, 2, 0, 0, 0)},
		{"mirror ( grid 3 0 2 120/300 )", grid(3, 0, 2, 1, 0, 2, 3, 0, 0)},
		{"turn ( mirror ( grid 3 0 2 120/300 ) )", grid(2, 0, 3, 1, 3, 0, 0, 2, 0)},
		{"mirror ( turn ( grid 3 0 2 120/300 ) )", grid(2, 0, 3, 1, 3, 2, 0, 0, 0)},
		{"recolor 10234567 ( grid 3 0 2 120/300 )", grid(3, 0, 2, 0, 2, 1, 3, 1, 1)},
		{"recolor 77777777 ( grid 3 0 2 120/300 )", grid(1, 0, 1, 7)},
		{"over ( grid 4 0 1 1000 ) ( grid 1 0 4 2/0/0/0 )", grid(4, 0, 4, 1, 2, 2, 2, 1, 0, 0, 0, 1, 0, 0, 0, 1, 0, 0, 0)},
		{"over ( grid 2 1 1 01 ) ( over ( grid 1 0 1 0 ) ( grid 1 0 2 2/3 ) )", grid(2, 0, 2, 2, 1, 1, 3)},
		{"over ( over ( grid 2 1 1 01 ) ( grid 1 0 1 0 ) ) ( grid 1 0 2 2/3 )", grid(2, 0, 2, 2, 1, 1, 3)},
		{"swell 2 ( grid 2 1 1 01 )", grid(4, 2, 2, 0, 0, 1, 1, 0, 0, 1, 1)},
		{"swell 12 ( grid 1 0 1 5 )", grid(1, 0, 1, 5)},
	} {
		if got, e := pattern.Parse(x.text); !same(got, x.want) || e != api.OK {
			t.Errorf("P5.8: Parse(%q) is %v, %v, not %v", x.text, got, e, x.want)
		}
	}
}

func TestParseSyntax(t *testing.T) {
	for _, text := range []string{
		"", " ", "  ", "(", ")", "( )", "0", "01", "/", "grid", "grid ", "bricks", "turn", "over", "over ( )", "turn ( )", "turn ( ) ", "\n", "\x00", "\xff",
		"grid 1 0 1", "grid 1 0 1 ", "grid 1 0 0", "grid 1 1 0", "grid 1 0 1 0 0", "grid 1 0 1 0 )", "grid 1 0 1 0 grid 1 0 1 0", "grid 1 0 1 0 turn",
		" grid 1 0 1 0", "grid 1 0 1 0 ", "grid  1 0 1 0", "grid 1  0 1 0", "grid 1 0 1  0", "grid\t1 0 1 0", "grid 1 0 1 0\n", "\ngrid 1 0 1 0", "grid 1 0 1 0\x00", "grid\u00a01 0 1 0",
		"Grid 1 0 1 0", "GRID 1 0 1 0", "brick 1 1 0 0", "gridd 1 0 1 0", "grid1 0 1 0", "( grid 1 0 1 0 )", "flip ( grid 1 0 1 0 )",
		// Rows.
		"grid 2 0 1 0", "grid 2 0 1 012", "grid 2 0 1 01/", "grid 2 0 1 /01", "grid 2 0 1 01/01", "grid 2 0 2 01", "grid 2 0 2 0101", "grid 2 0 2 01/0", "grid 2 0 2 01/012", "grid 2 0 2 01//01", "grid 2 0 2 012/3", "grid 2 0 2 01 01", "grid 2 0 2 01/01/", "grid 2 0 2 /",
		"grid 1 0 1 a", "grid 1 0 1 -", "grid 2 0 1 -1", "grid 2 0 1 +1", "grid 2 0 1 1.", "grid 1 0 1 :", "grid 1 0 1 .", "grid 2 0 1 \u00e9", "grid 1 0 1 \u0661", "grid 2 0 1 \u0661", "grid 2 0 2 01\\01",
		"grid 0 0 1 /", "grid 0 0 1 ", "grid 0 0 1 0", "grid 0 0 2 /", "grid 0 0 0 ", "grid 1 0 0 0", "grid 1 0 0 ", "grid -1 0 1 0", "grid 1 0 -1 0", "grid -1 0 1 ", "grid 1 0 2 0", "grid 100000 0 1 0", "grid 1 0 100000 0",
		"bricks 0 1 0 /", "bricks 0 1 0 ", "bricks 0 1 0 0", "bricks 1 0 0 0", "bricks 1 0 0 ", "bricks 0 0 0 ", "bricks -2 1 0 01", "bricks 2 -1 0 01", "bricks 2 1 0 0", "bricks 1 2 0 01", "bricks 2 1 01", "bricks 2 1 0 0 01",
		// Numbers.
		"grid 02 0 1 01", "grid 2 00 1 01", "grid 2 0 01 01", "grid 2 -0 1 01", "grid +2 0 1 01", "grid 2 +0 1 01", "grid 2 0 +1 01", "grid 2 0x0 1 01", "grid 2 a 1 01", "grid 2 0. 1 01", "grid 1_0 0 1 0000000000", "grid 2 - 1 01", "grid 2 --1 1 01", "grid 2 1e0 1 01", "grid \u0662 0 1 01",
		"grid 2 100001 1 01", "grid 2 -100001 1 01", "grid 100001 0 1 0", "grid 1 0 100001 0", "grid 2 18446744073709551617 1 01", "grid 2 9223372036854775808 1 01", "grid 2 -9223372036854775809 1 01", "grid 2 " + strings.Repeat("9", 3000) + " 1 01",
		"bricks 2 1 100001 01", "bricks 2 1 -100001 01", "bricks 2 1 -0 01", "bricks 2 1 01 01", "bricks 02 1 0 01", "bricks 2 01 0 01",
		"shift 100001 0 ( grid 1 0 1 0 )", "shift 0 100001 ( grid 1 0 1 0 )", "shift -100001 0 ( grid 1 0 1 0 )", "shift 0 -100001 ( grid 1 0 1 0 )", "shift -0 0 ( grid 1 0 1 0 )", "shift 0 00 ( grid 1 0 1 0 )", "shift 0 ( grid 1 0 1 0 )", "shift ( grid 1 0 1 0 )", "shift 0 0 0 ( grid 1 0 1 0 )",
		"swell 100001 ( grid 1 0 1 0 )", "swell -100001 ( grid 1 0 1 0 )", "swell 02 ( grid 1 0 1 0 )", "swell +2 ( grid 1 0 1 0 )", "swell ( grid 1 0 1 0 )", "swell 1 1 ( grid 1 0 1 0 )", "swell 18446744073709551617 ( grid 1 0 1 0 )",
		// Colors.
		"recolor 0123456 ( grid 1 0 1 0 )", "recolor 012345670 ( grid 1 0 1 0 )", "recolor 0123456a ( grid 1 0 1 0 )", "recolor -1234567 ( grid 1 0 1 0 )", "recolor ( grid 1 0 1 0 )", "recolor  ( grid 1 0 1 0 )", "recolor 0 1 2 3 4 5 6 7 ( grid 1 0 1 0 )", "recolor 0123/567 ( grid 1 0 1 0 )", "recolor 01234567 01234567 ( grid 1 0 1 0 )",
		// Parentheses.
		"turn grid 1 0 1 0", "turn (grid 1 0 1 0)", "turn (grid 1 0 1 0 )", "turn ( grid 1 0 1 0)", "turn ( grid 1 0 1 0", "turn ( grid 1 0 1 0 ", "turn ( grid 1 0 1 0 ) )", "turn ( ( grid 1 0 1 0 ) )", "turn( grid 1 0 1 0 )", "turn  ( grid 1 0 1 0 )", "turn ( grid 1 0 1 0 ) ", "turn ) grid 1 0 1 0 (", "turn [ grid 1 0 1 0 ]",
		"turn ( grid 1 0 1 0 ) ( grid 1 0 1 0 )", "turn ( grid 1 0 1 0 grid 1 0 1 0 )", "turn 0 ( grid 1 0 1 0 )", "mirror grid 1 0 1 0", "mirror 1 ( grid 1 0 1 0 )", "mirror ( grid 1 0 1 0 ) ( grid 1 0 1 0 )",
		"over ( grid 1 0 1 0 )", "over ( grid 1 0 1 0 ) ", "over ( grid 1 0 1 0 ) (", "over ( grid 1 0 1 0 ) ( )", "over ( grid 1 0 1 0 ) ( grid 1 0 1 0", "over ( grid 1 0 1 0 ) grid 1 0 1 0", "over ( grid 1 0 1 0 grid 1 0 1 0 )", "over ( grid 1 0 1 0 )( grid 1 0 1 0 )", "over ( grid 1 0 1 0 ) ( grid 1 0 1 0 ) ( grid 1 0 1 0 )", "over grid 1 0 1 0 grid 1 0 1 0",
		// Operations with an error, in what is not an expression.
		"over ( swell 0 ( grid 1 0 1 0 ) ) ( grid 1 0 2 0/0/0 )", "over ( grid 2 2 1 01 ) ( grid 1 0 1 a )", "turn ( grid 1 0 1 9 ) )", "swell 0 ( grid 1 0 1 )", "recolor 99999999 ( turn ( grid 1 0 1 0 )", "swell 12 ( grid 12 0 12 " + strings.Repeat("010101010101/", 12) + " )",
	} {
		if got, e := pattern.Parse(text); !isZero(got) || e != api.ErrSyntax {
			t.Errorf("P5.8: Parse(%.100q) is %v, %v", text, got, e)
		}
	}
}

// The first operation with an error decides, from left to right, inner ones before outer ones.
func TestParseErrors(t *testing.T) {
	wide := "grid 145 0 1 " + strings.Repeat("0", 145)
	large := "grid 73 0 2 " + strings.Repeat("0", 73) + "/" + strings.Repeat("0", 73)
	apart := "over ( grid 12 0 1 100000000000 ) ( grid 1 0 13 2/0/0/0/0/0/0/0/0/0/0/0/0 )"
	for _, x := range []struct {
		text string
		want api.Errno
	}{
		{"grid 2 2 1 01", api.ErrArg}, {"grid 2 -1 1 01", api.ErrArg}, {"grid 2 100000 1 01", api.ErrArg}, {"grid 2 -100000 1 01", api.ErrArg},
		{"grid 1 0 1 8", api.ErrArg}, {"grid 1 0 1 9", api.ErrArg}, {"bricks 2 1 0 19", api.ErrArg}, {"bricks 2 1 5 81", api.ErrArg},
		{wide, api.ErrArg}, {large, api.ErrLarge}, {strings.Replace(large, "0/", "9/", 1), api.ErrLarge}, {strings.Replace(large, "73 0", "73 73", 1), api.ErrArg},
		{"bricks 145 1 7 " + strings.Repeat("0", 145), api.ErrArg}, {"bricks 1 145 7 0" + strings.Repeat("/0", 144), api.ErrArg}, {"bricks 2 73 7 01" + strings.Repeat("/01", 72), api.ErrLarge},
		{"recolor 01234568 ( grid 1 0 1 0 )", api.ErrArg}, {"recolor 90000000 ( grid 1 0 1 1 )", api.ErrArg},
		{"swell 0 ( grid 1 0 1 0 )", api.ErrArg}, {"swell 13 ( grid 1 0 1 0 )", api.ErrArg}, {"swell -1 ( grid 1 0 1 0 )", api.ErrArg}, {"swell 100000 ( grid 1 0 1 0 )", api.ErrArg}, {"swell -100000 ( grid 1 0 1 0 )", api.ErrArg},
		{"swell 5 ( grid 3 0 2 120/300 )", api.ErrLarge}, {apart, api.ErrLarge},
		// Inner ones before outer ones.
		{"swell 0 ( swell 5 ( grid 3 0 2 120/300 ) )", api.ErrLarge}, {"swell 0 ( " + apart + " )", api.ErrLarge}, {"swell 0 ( " + large + " )", api.ErrLarge}, {"recolor 99999999 ( " + apart + " )", api.ErrLarge},
		{"swell 5 ( swell 12 ( swell 0 ( grid 3 0 2 120/300 ) ) )", api.ErrArg}, {"swell 12 ( over ( grid 2 2 1 01 ) ( " + apart + " ) )", api.ErrArg},
		{"turn ( mirror ( shift 1 1 ( " + large + " ) ) )", api.ErrLarge}, {"turn ( mirror ( shift 1 1 ( grid 2 2 1 01 ) ) )", api.ErrArg},
		// From left to right.
		{"over ( grid 2 2 1 01 ) ( " + large + " )", api.ErrArg}, {"over ( " + large + " ) ( grid 2 2 1 01 )", api.ErrLarge},
		{"over ( swell 0 ( grid 1 0 1 0 ) ) ( " + large + " )", api.ErrArg}, {"over ( " + apart + " ) ( swell 0 ( grid 1 0 1 0 ) )", api.ErrLarge},
		{"over ( grid 1 0 1 0 ) ( swell 0 ( " + apart + " ) )", api.ErrLarge}, {"over ( over ( grid 1 0 1 0 ) ( grid 1 0 1 8 ) ) ( " + large + " )", api.ErrArg},
		{"over ( grid 1 0 1 0 ) ( grid 1 0 1 8 )", api.ErrArg},
	} {
		if got, e := pattern.Parse(x.text); !isZero(got) || e != x.want {
			t.Errorf("P5.8: Parse(%q) is %v, %v", x.text, got, e)
		}
	}
}

func TestParseDepth(t *testing.T) {
	around := func(times int, before, inner, after string) string {
		return strings.Repeat(before, times) + inner + strings.Repeat(after, times)
	}
	for _, wrap := range [][2]string{
		{"turn ( ", " )"}, {"mirror ( ", " )"}, {"shift 1 -1 ( ", " )"}, {"swell 1 ( ", " )"}, {"recolor 01234567 ( ", " )"},
		{"over ( grid 1 0 1 0 ) ( ", " )"}, {"over ( ", " ) ( grid 1 0 1 0 )"}, {"over ( turn ( mirror ( grid 1 0 1 0 ) ) ) ( turn ( ", " ) )"},
	} {
		parts := strings.Count(wrap[0], "( ") - strings.Count(wrap[0], ") ")
		for times := range 40 {
			text := around(times, wrap[0], "grid 1 0 1 3", wrap[1])
			want := api.ErrSyntax
			if times*parts+1 <= api.MaxDepth {
				want = api.OK
			}
			if got, e := pattern.Parse(text); e != want || same(got, grid(1, 0, 1, 3)) != (want == api.OK) {
				t.Errorf("P5.8: Parse(%q) is %v, %v", text, got, e)
			}
		}
	}
	// Bricks count, too, and the deepest of two parts counts.
	deep := around(11, "turn ( ", "bricks 1 1 0 3", " )")
	for _, x := range []struct {
		text string
		want api.Errno
	}{
		{deep, api.OK}, {"mirror ( " + deep + " )", api.ErrSyntax}, {"over ( " + deep + " ) ( grid 1 0 1 0 )", api.ErrSyntax}, {"over ( grid 1 0 1 0 ) ( " + deep + " )", api.ErrSyntax},
		// Too deep is no expression, whatever the operations would be.
		{"over ( swell 0 ( grid 1 0 1 0 ) ) ( " + deep + " )", api.ErrSyntax},
		{around(500, "turn ( ", "", ""), api.ErrSyntax}, {around(1000, "( ", "", ""), api.ErrSyntax},
	} {
		if _, e := pattern.Parse(x.text); e != x.want {
			t.Errorf("P5.8: Parse(%q) is %v", x.text, e)
		}
	}
}

func TestParseLongTexts(t *testing.T) {
	// The row is an expression of exactly MaxText bytes, although no pattern is that wide.
	row := "grid 3986 0 1 " + strings.Repeat("0", 3986)
	for _, x := range []struct {
		text string
		want api.Errno
	}{
		{row, api.ErrArg}, {row + "0", api.ErrLarge},
		{strings.Repeat(" ", api.MaxText), api.ErrSyntax}, {strings.Repeat(" ", api.MaxText+1), api.ErrLarge},
		{strings.Repeat("\xff", api.MaxText), api.ErrSyntax}, {strings.Repeat("turn ( ", 100000), api.ErrLarge}, {strings.Repeat("\u00e9", api.MaxText/2+1), api.ErrLarge},
	} {
		if got, e := pattern.Parse(x.text); !isZero(got) || e != x.want {
			t.Errorf("P5.8: Parse(%.20q, %d bytes) is %v, %v", x.text, len(x.text), got, e)
		}
	}
	// An expression of exactly MaxText bytes: 23 leaves, 9 of them turned, under each other.
	leaf := "grid 144 0 1 " + strings.Repeat("4", 144)
	var parts []string
	for i := range 23 {
		if i < 9 {
			parts = append(parts, "turn ( "+leaf+" )")
		} else {
			parts = append(parts, leaf)
		}
	}
	for len(parts) > 1 {
		parts = append(parts[2:], "over ( "+parts[0]+" ) ( "+parts[1]+" )")
	}
	if got, e := pattern.Parse(parts[0]); len(parts[0]) != api.MaxText || !same(got, grid(1, 0, 1, 4)) || e != api.OK {
		t.Errorf("P5.8: a text of %d bytes is %v, %v", len(parts[0]), got, e)
	}
	if got, e := pattern.Parse(strings.Replace(parts[0], "grid 144 0 1 ", "grid 144 10 1 ", 1)); !isZero(got) || e != api.ErrLarge {
		t.Errorf("P5.8: a text of %d bytes is %v, %v", len(parts[0])+1, got, e)
	}
}

// random returns an expression with what the functions of the same names make of it; some of its operations have an error.
func random(r *rand.Rand, depth int) (string, api.Pattern, api.Errno) {
	if depth == 1 || r.Intn(5) == 0 {
		return randomGrid(r)
	}
	one, p, e := random(r, depth-1)
	var out api.Pattern
	var own api.Errno
	text := ""
	switch r.Intn(6) {
	case 0:
		x, y := r.Intn(41)-20, r.Intn(41)-20
		text = "shift " + strconv.Itoa(x) + " " + strconv.Itoa(y)
		out, own = pattern.Shift(p, x, y)
	case 1:
		text = "turn"
		out, own = pattern.Turn(p)
	case 2:
		text = "mirror"
		out, own = pattern.Mirror(p)
	case 3:
		var table []int
		text = "recolor "
		for range api.MaxColors {
			table = append(table, r.Intn(8)+r.Intn(60)/59)
			text += strconv.Itoa(table[len(table)-1])
		}
		out, own = pattern.Recolor(p, table)
	case 4:
		times := r.Intn(3) + r.Intn(20)/19*12
		text = "swell " + strconv.Itoa(times)
		out, own = pattern.Swell(p, times)
	case 5:
		two, q, next := random(r, depth-1)
		if e == api.OK {
			e = next
		}
		out, own = pattern.Over(p, q)
		text, one = "over ( "+one+" )", two
	}
	text += " ( " + one + " )"
	if e != api.OK {
		return text, api.Pattern{}, e
	}
	return text, out, own
}

func randomGrid(r *rand.Rand) (string, api.Pattern, api.Errno) {
	p := randomPattern(r, 10, 3)
	switch r.Intn(40) {
	case 0:
		p.B = p.A
	case 1:
		p.Cells[r.Intn(len(p.Cells))] = 8
	case 2:
		p = zeros(1+r.Intn(200), 0, 1, 0)
		p.Cells = make([]int, p.A)
	}
	text := written(p)
	if r.Intn(2) == 0 {
		drop := r.Intn(200) - 100
		p.B = drop - down(drop, p.A)*p.A
		_, rows, _ := strings.Cut(text, "grid "+strconv.Itoa(p.A)+" ")
		rows = rows[strings.LastIndex(rows, " "):]
		text = "bricks " + strconv.Itoa(p.A) + " " + strconv.Itoa(p.C) + " " + strconv.Itoa(drop) + rows
	}
	out, e := pattern.Least(p)
	return text, out, e
}

func TestParseAsFunctions(t *testing.T) {
	r := rand.New(rand.NewSource(31))
	count := map[api.Errno]int{}
	for range 4000 {
		text, want, we := random(r, 1+r.Intn(7))
		if len(text) > api.MaxText {
			continue
		}
		if got, e := pattern.Parse(text); !same(got, want) || e != we {
			t.Fatalf("P5.8: Parse(%q) is %v, %v, not %v, %v", text, got, e, want, we)
		}
		count[we]++
	}
	if count[api.OK] < 1000 || count[api.ErrArg] < 100 || count[api.ErrLarge] < 100 || len(count) != 3 {
		t.Error("the cases do not cover the outcomes:", count)
	}
}

// isExpression reads a text in another way than Parse: it replaces innermost expressions by their depths, until there is one.
func isExpression(text string) bool {
	if strings.ContainsAny(text, ";E") {
		return false
	}
	number := `(0|-?[1-9][0-9]*)`
	words := regexp.MustCompile(`\bgrid ` + number + ` ` + number + ` ` + number + ` ([0-9/]+)|\bbricks ` + number + ` ` + number + ` ` + number + ` ([0-9/]+)`)
	text = words.ReplaceAllStringFunc(text, func(one string) string {
		w := strings.Split(one, " ")
		height := w[3]
		if w[0] == "bricks" {
			height = w[2]
		}
		rows := strings.Split(w[4], "/")
		is := strconv.Itoa(len(rows)) == height && len(rows[0]) > 0
		for _, row := range rows {
			is = is && strconv.Itoa(len(row)) == w[1]
		}
		if !is || !areSmall(w[1:4]) {
			return one
		}
		return "E1;"
	})
	outer := regexp.MustCompile(`\b(?:shift ` + number + ` ` + number + `|swell ` + number + `|turn|mirror|recolor [0-9]{8}|over \( E(\d+); \)) \( E(\d+); \)`)
	for range api.MaxDepth {
		text = outer.ReplaceAllStringFunc(text, func(one string) string {
			m := outer.FindStringSubmatch(one)
			if !areSmall(m[1:4]) {
				return one
			}
			left, _ := strconv.Atoi(m[4])
			right, _ := strconv.Atoi(m[5])
			return "E" + strconv.Itoa(1+max(left, right)) + ";"
		})
	}
	m := regexp.MustCompile(`^E(\d+);$`).FindStringSubmatch(text)
	if m == nil {
		return false
	}
	depth, _ := strconv.Atoi(m[1])
	return depth <= api.MaxDepth
}

// areSmall passes over words that are empty.
func areSmall(words []string) bool {
	for _, w := range words {
		w = strings.TrimPrefix(w, "-")
		if len(w) > 6 || len(w) == 6 && w != "100000" {
			return false
		}
	}
	return true
}

// altered returns a text with a small change.
func altered(r *rand.Rand, text string) string {
	from := r.Intn(len(text) + 1)
	to := min(len(text), from+r.Intn(3))
	pieces := []string{"", "", " ", "0", "1", "2", "9", "-", "/", "(", ")", " ) ", " ( ", "00", "100000", "100001", "turn", "grid 1 0 1 0", "turn ( ", "over ( ", "\n", "a", " 0", "\xc3"}
	return text[:from] + pieces[r.Intn(len(pieces))] + text[to:]
}

func TestParseAlteredTexts(t *testing.T) {
	r := rand.New(rand.NewSource(32))
	count := map[bool]int{}
	for range 30000 {
		text, _, _ := random(r, 1+r.Intn(4))
		for range r.Intn(3) {
			text = altered(r, text)
		}
		want := isExpression(text)
		got, e := pattern.Parse(text)
		if (e != api.ErrSyntax) != want || isZero(got) != (e != api.OK) {
			t.Fatalf("P5.8: Parse(%q) is %v, %v, and it is %v that this is an expression", text, got, e, want)
		}
		count[want]++
	}
	if count[true] < 5000 || count[false] < 5000 {
		t.Error("the cases do not cover the answers:", count)
	}
}
