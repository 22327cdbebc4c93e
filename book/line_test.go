package book_test

import (
	"math"
	"math/big"
	"math/rand"
	"regexp"
	"strconv"
	"strings"
	"testing"

	"linoleum/api"
	"linoleum/book"
)

// sumOf is P9.1 word by word, in numbers of any size.
func sumOf(before int, text string) int {
	modulus := big.NewInt(1000003)
	sum := new(big.Int).Mod(big.NewInt(int64(before)), modulus)
	for i := 0; i < len(text); i++ {
		sum.Mul(sum, big.NewInt(257))
		sum.Add(sum, big.NewInt(int64(text[i])+1))
		sum.Mod(sum, modulus)
	}
	return int(sum.Int64())
}

// lineText is P9.2 for one line, whose text may be wrong, and its sum.
func lineText(number, before int, text string) (string, int) {
	sum := sumOf(before, strconv.Itoa(number)+" "+text)
	return strconv.Itoa(number) + " " + strconv.Itoa(sum) + " " + text + "\n", sum
}

// bookOf writes a book with any texts, without the functions of the package.
func bookOf(texts ...string) string {
	b := ""
	sum := 0
	for i, text := range texts {
		var line string
		line, sum = lineText(i+1, sum, text)
		b += line
	}
	return b
}

var linePattern = regexp.MustCompile("^([0-9]+) ([0-9]+) ([!-~]|[!-~][ -~]{0,78}[!-~])\n")

// read is P9.2 for Read word by word.
func read(b string) ([]api.Line, string) {
	var lines []api.Line
	before := 0
	for len(lines) < api.MaxLines {
		m := linePattern.FindStringSubmatch(b)
		if m == nil {
			break
		}
		want, sum := lineText(len(lines)+1, before, m[3])
		if m[0] != want {
			break
		}
		lines = append(lines, api.Line{Number: len(lines) + 1, Text: m[3], Sum: sum})
		before = sum
		b = b[len(want):]
	}
	return lines, b
}

func sameLines(a, b []api.Line) bool {
	if len(a) != len(b) {
		return false
	}
	for i := range a {
		if a[i] != b[i] {
			return false
		}
	}
	return true
}

// checkRead compares what is read of a text with P9.2.
func checkRead(t *testing.T, b string) {
	t.Helper()
	want, wantRest := read(b)
	lines, rest := book.Read(b)
	if !sameLines(lines, want) || rest != wantRest {
		t.Errorf("P9.2: Read(%.200q) is %v, %q, not %v, %q", b, lines, rest, want, wantRest)
	}
	if is := book.IsWhole(b); is != (wantRest == "") {
		t.Errorf("P9.2: IsWhole(%.200q) is %v", b, is)
	}
	if s := book.Repair(b); s != strings.TrimSuffix(b, wantRest) {
		t.Errorf("P9.2: Repair(%.200q) is %q", b, s)
	}
}

// rightTexts has texts of all lengths and with all bytes that a line may have.
func rightTexts() []string {
	list := []string{
		"a", "b c", "~", "!", "a  b", "1", "1 2", "0 0 0", "receive oil 100 240", "post stock cash 1l 2s 6d",
		"\"quoted\\n\"", "a" + strings.Repeat(" ", 78) + "b", strings.Repeat("~", api.MaxLine), strings.Repeat("x", api.MaxLine-1),
	}
	for c := '!'; c <= '~'; c++ {
		list = append(list, string(c)+" "+string(c))
	}
	return list
}

// wrongTexts are those that no line may have.
func wrongTexts() []string {
	list := []string{
		"", " ", "  ", " a", "a ", " a ", "a\n", "\na", "a\nb", "a\r", "\t", "a\tb", "\x00", "a\x00b", "a\x1fb", "a\x7fb", "\x7f",
		"é", "aéb", "a\u00a0b", "\u2028", "a\xffb", "\x80", "a\xc3", strings.Repeat("x", api.MaxLine+1), strings.Repeat("é", api.MaxLine/2),
		"a" + strings.Repeat(" ", api.MaxLine-1) + "b", strings.Repeat("x", 100000), strings.Repeat(" ", 81), strings.Repeat("x", api.MaxLine) + " ",
	}
	for c := range 256 {
		if c < ' ' || c > '~' {
			list = append(list, string([]byte{'a', byte(c), 'b'}), string([]byte{byte(c)}))
		}
	}
	return list
}

func randomText(random *rand.Rand) string {
	list := rightTexts()
	if random.Intn(2) == 0 {
		return list[random.Intn(len(list))]
	}
	text := make([]byte, 1+random.Intn(api.MaxLine))
	for i := range text {
		text[i] = byte(' ' + random.Intn('~'-' '+1))
	}
	text[0], text[len(text)-1] = 'q', 'z'
	return string(text)
}

func randomTexts(random *rand.Rand, n int) []string {
	var list []string
	for range n {
		list = append(list, randomText(random))
	}
	return list
}

func numbered(n int) []string {
	var list []string
	for i := range n {
		list = append(list, "line "+strconv.Itoa(i))
	}
	return list
}

func TestSum(t *testing.T) {
	for _, x := range []struct {
		before int
		text   string
		want   int
	}{
		{0, "", 0}, {0, "a", 98}, {98, "b", 25285}, {0, "ab", 25285}, {0, "\x00", 1}, {0, "\xff", 256}, {1, "", 1},
		{0, "é", 0xc4*257 + 0xaa}, {0, "\xa9\xc3", 0xaa*257 + 0xc4}, {1000002, "", 1000002}, {1000003, "", 0}, {1000004, "", 1},
		{-1, "", 1000002}, {-1000003, "", 0}, {-1000004, "", 1000002}, {2000006, "a", 98}, {-1, "\x00", 999747},
		{math.MaxInt, "", math.MaxInt % 1000003}, {math.MinInt, "", math.MinInt%1000003 + 1000003},
	} {
		if got := book.Sum(x.before, x.text); got != x.want {
			t.Errorf("P9.1: Sum(%d, %q) is %d, not %d", x.before, x.text, got, x.want)
		}
	}
}

// A text is summed byte by byte, whatever characters its bytes make.
func TestSumOfAnyBytes(t *testing.T) {
	random := rand.New(rand.NewSource(91))
	texts := append(rightTexts(), wrongTexts()...)
	texts = append(texts, "日本語", "a\u0301", "\xe6\x97", "\xe6\x97a", "\U0001f3e0x", "\xf0\x9f\x8f", "\xed\xa0\x80", "\xc0\x80", "\xef\xbf\xbd", "\xff\xfe\xfd", "é\xe9é")
	for range 500 {
		text := make([]byte, random.Intn(40))
		for i := range text {
			text[i] = byte(random.Intn(256))
		}
		texts = append(texts, string(text))
	}
	for _, text := range texts {
		for _, before := range []int{0, 1, -1, 1000002, 1000003, 999999999, math.MaxInt, math.MinInt, random.Int()} {
			if got, want := book.Sum(before, text), sumOf(before, text); got != want {
				t.Fatalf("P9.1: Sum(%d, %q) is %d, not %d", before, text, got, want)
			}
		}
		cut := random.Intn(len(text) + 1)
		if got, want := book.Sum(book.Sum(7, text[:cut]), text[cut:]), book.Sum(7, text); got != want {
			t.Errorf("P9.1: the parts of %q, cut at %d, have the sum %d, not %d", text, cut, got, want)
		}
	}
}

func TestReadTheExample(t *testing.T) {
	// 49+1 = 50; 50*257+33 = 12883; 12883*257+98 = 3311029, less 3*1000003 is 311020.
	b := "1 311020 a\n"
	lines, rest := book.Read(b)
	if !sameLines(lines, []api.Line{{Number: 1, Text: "a", Sum: 311020}}) || rest != "" {
		t.Errorf("P9.2: Read(%q) is %v, %q", b, lines, rest)
	}
	for _, rest := range []string{"x", "\n", "1 311020 a\n", "2", "2 ", " "} {
		lines, torn := book.Read(b + rest)
		if len(lines) != 1 || torn != rest || book.IsWhole(b+rest) || book.Repair(b+rest) != b {
			t.Errorf("P9.2: Read(%q) is %v, %q", b+rest, lines, torn)
		}
	}
	if lines, rest := book.Read(""); len(lines) != 0 || rest != "" || !book.IsWhole("") || book.Repair("") != "" {
		t.Errorf("P9.2: Read of nothing is %v, %q", lines, rest)
	}
}

func TestReadWholeBooks(t *testing.T) {
	random := rand.New(rand.NewSource(92))
	checkRead(t, bookOf(rightTexts()...))
	for range 100 {
		texts := randomTexts(random, random.Intn(20))
		b := bookOf(texts...)
		checkRead(t, b)
		lines, rest := book.Read(b)
		if len(lines) != len(texts) || rest != "" {
			t.Fatalf("P9.2: Read(%q) has %d lines and the rest %q", b, len(lines), rest)
		}
		for i, text := range texts {
			if lines[i].Text != text || lines[i].Number != i+1 {
				t.Errorf("P9.2: the line %d of %q is %v", i+1, b, lines[i])
			}
		}
	}
}

// S5: a book that was cut anywhere is a beginning of itself, with a rest that is shorter than a line.
func TestReadTornBooks(t *testing.T) {
	random := rand.New(rand.NewSource(93))
	for range 20 {
		b := bookOf(randomTexts(random, 1+random.Intn(8))...)
		all, _ := book.Read(b)
		for n := range len(b) + 1 {
			checkRead(t, b[:n])
			lines, rest := book.Read(b[:n])
			if len(lines) > len(all) || !sameLines(lines, all[:len(lines)]) || strings.Contains(rest, "\n") {
				t.Errorf("P9.2: %q, cut at %d, has the lines %v and the rest %q", b, n, lines, rest)
			}
			if s := book.Repair(b[:n]); !strings.HasPrefix(b, s) || !book.IsWhole(s) || s+rest != b[:n] {
				t.Errorf("P9.2: %q, cut at %d, is repaired to %q", b, n, s)
			}
		}
	}
}

// Every byte of a small book is changed, taken out, doubled, and has others put before it.
func TestReadAlteredBooks(t *testing.T) {
	for _, b := range []string{bookOf("a", "b c", "d"), bookOf("receive oil 100 240", "x", "1 1"), bookOf("1 1", "2 2")} {
		for at := range len(b) {
			for c := range 256 {
				checkRead(t, b[:at]+string([]byte{byte(c)})+b[at+1:])
				checkRead(t, b[:at]+string([]byte{byte(c)})+b[at:])
			}
			checkRead(t, b[:at]+b[at+1:])
			checkRead(t, b[at:])
			if at+1 < len(b) {
				checkRead(t, b[:at]+b[at+1:at+2]+b[at:at+1]+b[at+2:])
			}
		}
	}
}

func TestReadRefusesOtherLines(t *testing.T) {
	one := bookOf("a", "b", "c")
	lines := strings.SplitAfter(one, "\n")
	for _, b := range []string{
		"\n", " ", "a", "1", "1 ", "1 311020", "1 311020 ", "1 311020 a", "1 311020\n", "1 311020 \n", "1  a\n", " 311020 a\n",
		"01 311020 a\n", "+1 311020 a\n", "1 0311020 a\n", "1 +311020 a\n", "1 1311023 a\n", "1 -688983 a\n", "1  311020 a\n", "1 311020  a\n",
		" 1 311020 a\n", "1 311020 a \n", "1 311020 a\r\n", "1 311020 A\n", "2 311020 a\n", "0 311020 a\n", "1 311021 a\n", "1 311019 a\n",
		"1\t311020 a\n", "1 311020\ta\n", "1 311020 a\x00\n", "\n1 311020 a\n", "1 311020 a\n\n", "١ 311020 a\n",
		lines[1], lines[1] + lines[0], lines[0] + lines[2], lines[0] + lines[2] + lines[1], lines[0] + lines[0] + lines[1], one + one, one + lines[0],
		strings.Repeat("1 ", 100000), strings.Repeat("\n", 1000), strings.Repeat("9", 100000) + " 1 a\n", "1 " + strings.Repeat("9", 100000) + " a\n",
	} {
		checkRead(t, b)
		if book.IsWhole(b) {
			t.Errorf("P9.2: IsWhole(%.200q)", b)
		}
	}
	// A line whose number and sum are right, but not those behind this line, or not from 0 on.
	second, _ := lineText(2, 0, "b")
	third, _ := lineText(3, 311020, "b")
	first, _ := lineText(1, 1, "a")
	for _, b := range []string{lines[0] + second, lines[0] + third, first} {
		checkRead(t, b)
		if book.IsWhole(b) {
			t.Errorf("P9.2: IsWhole(%q)", b)
		}
	}
}

// Right sums do not help a text that is not right.
func TestReadRefusesWrongTexts(t *testing.T) {
	for _, text := range wrongTexts() {
		for _, texts := range [][]string{{text}, {text, "a"}, {"a", "b", text}, {"a", text, "b"}} {
			b := bookOf(texts...)
			checkRead(t, b)
			if book.IsWhole(b) {
				t.Errorf("P9.2: IsWhole(%.200q)", b)
			}
		}
	}
}

// The sum of the first line is 0: it is written as any other.
func TestReadASumOfZero(t *testing.T) {
	b := bookOf("cagfg", "a")
	if !strings.HasPrefix(b, "1 0 cagfg\n2 ") || !book.IsWhole(b) {
		t.Errorf("P9.2: %q is not whole", b)
	}
	if got, e := book.Append("", "cagfg"); got != "1 0 cagfg\n" || e != api.OK {
		t.Errorf("P9.3: the line with the sum 0 is %q, %v", got, e)
	}
	for _, other := range []string{"1 00 ", "1 -0 ", "1 +0 ", "1  ", "1 1000003 "} {
		altered := strings.Replace(b, "1 0 ", other, 1)
		checkRead(t, altered)
		if book.IsWhole(altered) {
			t.Errorf("P9.2: IsWhole(%q)", altered)
		}
	}
}

func TestReadAtTheLimit(t *testing.T) {
	full := bookOf(numbered(api.MaxLines)...)
	lines, rest := book.Read(full)
	if len(lines) != api.MaxLines || rest != "" || !book.IsWhole(full) || book.Repair(full) != full {
		t.Errorf("P9.2: a full book has %d lines and the rest %q", len(lines), rest)
	}
	over := bookOf(numbered(api.MaxLines + 2)...)
	lines, rest = book.Read(over)
	if len(lines) != api.MaxLines || full+rest != over || rest == "" || book.IsWhole(over) || book.Repair(over) != full {
		t.Errorf("P9.2: a book of too many lines has %d lines and the rest %q", len(lines), rest)
	}
	checkRead(t, full)
	checkRead(t, over)
	checkRead(t, full+"x")
}
