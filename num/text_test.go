package num_test

import (
	"math"
	"strings"
	"testing"

	"linoleum/api"
	"linoleum/num"
)

func TestFormatRat(t *testing.T) {
	for _, x := range []struct {
		r    api.Rat
		text string
	}{
		{rat(0, 1), "0"}, {rat(17, 1), "17"}, {rat(-17, 1), "-17"}, {rat(-3, 2), "-3/2"}, {rat(3, 2), "3/2"},
		{rat(1, api.MaxDen), "1/1048576"}, {rat(api.MaxNum, 1), "1099511627776"}, {rat(-api.MaxNum, 3), "-1099511627776/3"},
	} {
		if text, e := num.FormatRat(x.r); text != x.text || e != api.OK {
			t.Errorf("P1.5: FormatRat(%v) is %q, %v", x.r, text, e)
		}
		if r, e := num.ParseRat(x.text); r != x.r || e != api.OK {
			t.Errorf("P1.5: ParseRat(%q) is %v, %v", x.text, r, e)
		}
	}
	for _, r := range validRats() {
		text, e := num.FormatRat(r)
		if again, pe := num.ParseRat(text); again != r || e != api.OK || pe != api.OK {
			t.Errorf("P1.5: %v is written %q and read %v", r, text, again)
		}
	}
	for _, r := range invalidRats() {
		if text, e := num.FormatRat(r); text != "" || e != api.ErrArg {
			t.Errorf("P1.5: FormatRat(%v) is %q, %v", r, text, e)
		}
	}
}

func TestParseRatRefuses(t *testing.T) {
	for _, text := range []string{
		"", " ", "-", "/", "1/", "/2", "-/2", "1//2", "1/2/3", "a", "1a", "0x1", "1_000", "1e3", "1.5",
		"+1", "-0", "00", "01", "-01", "+1/2", "1/+2", "1/02", "01/2", "--1", "1/-2", "-1/-2",
		"1/1", "3/1", "0/1", "0/2", "2/4", "-6/3", "1/0", "0/0",
		" 1", "1 ", "1 /2", "1/ 2", "1/2 ", "1/2\n", "1\t", "1/2\x00", "\u0661", "1\u20442",
		"1099511627777", "-1099511627777", "1/1048577", "1099511627776/1048576",
		"9223372036854775808", "-9223372036854775809", "1/9223372036854775808", "18446744073709551617",
		strings.Repeat("9", 100000), "1/" + strings.Repeat("1", 100000),
	} {
		if r, e := num.ParseRat(text); r != (api.Rat{}) || e != api.ErrSyntax {
			t.Errorf("P1.5: ParseRat(%.40q) is %v, %v", text, r, e)
		}
	}
}

func TestFormatMoney(t *testing.T) {
	for _, x := range []struct {
		pence int
		text  string
	}{
		{0, "0d"}, {1, "1d"}, {11, "11d"}, {12, "1s"}, {13, "1s 1d"}, {239, "19s 11d"}, {240, "1l"}, {241, "1l 1d"},
		{252, "1l 1s"}, {270, "1l 2s 6d"}, {479, "1l 19s 11d"}, {2400, "10l"},
		{-1, "-1d"}, {-12, "-1s"}, {-37, "-3s 1d"}, {-240, "-1l"}, {-241, "-1l 1d"}, {-270, "-1l 2s 6d"},
		{api.MaxPence, "4581298449l 1s 4d"}, {-api.MaxPence, "-4581298449l 1s 4d"}, {api.MaxPence - 1, "4581298449l 1s 3d"},
	} {
		if text, e := num.FormatMoney(x.pence); text != x.text || e != api.OK {
			t.Errorf("P1.6: FormatMoney(%d) is %q, %v", x.pence, text, e)
		}
		if pence, e := num.ParseMoney(x.text); pence != x.pence || e != api.OK {
			t.Errorf("P1.6: ParseMoney(%q) is %d, %v", x.text, pence, e)
		}
	}
	for pence := -1000; pence <= 1000; pence++ {
		text, e := num.FormatMoney(pence)
		if again, pe := num.ParseMoney(text); again != pence || e != api.OK || pe != api.OK {
			t.Errorf("P1.6: %d is written %q and read %d", pence, text, again)
		}
	}
	for _, pence := range []int{api.MaxPence + 1, -api.MaxPence - 1, math.MaxInt, math.MinInt} {
		if text, e := num.FormatMoney(pence); text != "" || e != api.ErrArg {
			t.Errorf("P1.6: FormatMoney(%d) is %q, %v", pence, text, e)
		}
	}
}

func TestParseMoneyRefuses(t *testing.T) {
	for _, text := range []string{
		"", " ", "-", "d", "l", "-d", "0", "1", "12", "1x", "1D", "1 d", "1dd", "1ld", "1l2s", "1.5d", "+1d", "1_0d",
		"12d", "20s", "1l 20s", "1s 12d", "13d", "240d", "0l", "0s", "1l 0s", "1l 0s 1d", "1s 0d", "0l 0s 0d", "-0d",
		"01d", "1l 02s", "00d", "1d 1s", "1s 1l", "1d 1d", "1l 1l", "1s 1s", "1l 1s 1d 1d", "1l 1s 1d ",
		" 1d", "1d ", "1l  1d", "1l\t1d", "1d\n", "1l,1d", "--1d", "- 1d", "-1l -1d", "1l -1d", "-1l -2s -3d",
		"4581298449l 1s 5d", "-4581298449l 1s 5d", "4581298450l", "1099511627777l",
		"9223372036854775808d", "18446744073709551617d", "76861433640456466l", strings.Repeat("9", 100000) + "d", strings.Repeat("1d ", 50000),
	} {
		if pence, e := num.ParseMoney(text); pence != 0 || e != api.ErrSyntax {
			t.Errorf("P1.6: ParseMoney(%.40q) is %d, %v", text, pence, e)
		}
	}
}
