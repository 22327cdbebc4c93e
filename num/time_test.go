package num_test

import (
	"math"
	"slices"
	"testing"

	"linoleum/api"
	"linoleum/num"
)

const endOfTime = api.MaxDay * 1440

func example() api.Calendar {
	return api.Calendar{Start: 480, End: 960, Rest: []int{5, 6}}
}

func upTo(n int) []int {
	list := make([]int, n)
	for i := range list {
		list[i] = i
	}
	return list
}

// weekdaysOnly is open on one weekday, and not on its first 32 days: the holidays are at their limit.
func weekdaysOnly(weekday int) api.Calendar {
	c := api.Calendar{Start: 1439, End: 1440}
	for d := range 7 {
		if d != weekday {
			c.Rest = append(c.Rest, d)
		}
	}
	for i := range api.MaxHolidays {
		c.Holidays = append(c.Holidays, weekday+7*i)
	}
	return c
}

// closedAtTheEnd is not open after the day 1769; it would be again on the day MaxDay, which is no day of a calendar.
func closedAtTheEnd() api.Calendar {
	c := api.Calendar{Start: 0, End: 60, Rest: []int{0, 1, 2, 3, 4, 6}}
	for i := range api.MaxHolidays {
		c.Holidays = append(c.Holidays, 1769+7*(i+1))
	}
	return c
}

func calendars() []api.Calendar {
	return []api.Calendar{
		example(),
		{Start: 480, End: 960, Rest: []int{5, 6}, Holidays: []int{1, 7, 1999}},
		{Start: 0, End: 1440},
		{Start: 1439, End: 1440, Rest: []int{0}},
		{Start: 0, End: 1, Rest: []int{1, 2, 3, 4, 5, 6}},
		{Start: 300, End: 301, Holidays: upTo(api.MaxHolidays)},
		weekdaysOnly(3),
		closedAtTheEnd(),
	}
}

type badCalendar struct {
	c api.Calendar
	e api.Errno
}

func badCalendars() []badCalendar {
	return []badCalendar{
		{api.Calendar{}, api.ErrArg},
		{api.Calendar{Start: -1, End: 5}, api.ErrArg},
		{api.Calendar{Start: 1440, End: 1441}, api.ErrArg},
		{api.Calendar{Start: 1440, End: 1440}, api.ErrArg},
		{api.Calendar{Start: 10, End: 10}, api.ErrArg},
		{api.Calendar{Start: 10, End: 9}, api.ErrArg},
		{api.Calendar{Start: 0, End: 1441}, api.ErrArg},
		{api.Calendar{Start: math.MaxInt, End: math.MinInt}, api.ErrArg},
		{api.Calendar{Start: math.MinInt, End: math.MaxInt}, api.ErrArg},
		{api.Calendar{End: 1, Rest: []int{-1}}, api.ErrArg},
		{api.Calendar{End: 1, Rest: []int{7}}, api.ErrArg},
		{api.Calendar{End: 1, Rest: []int{2, 2}}, api.ErrArg},
		{api.Calendar{End: 1, Rest: []int{3, 2}}, api.ErrArg},
		{api.Calendar{End: 1, Rest: upTo(7)}, api.ErrArg},
		{api.Calendar{End: 1, Rest: upTo(8)}, api.ErrArg},
		{api.Calendar{End: 1, Rest: []int{math.MaxInt}}, api.ErrArg},
		{api.Calendar{End: 1, Holidays: upTo(api.MaxHolidays + 1)}, api.ErrLarge},
		{api.Calendar{End: 1, Holidays: make([]int, api.MaxHolidays+1)}, api.ErrLarge},
		{api.Calendar{End: 1, Holidays: []int{-1}}, api.ErrArg},
		{api.Calendar{End: 1, Holidays: []int{0, api.MaxDay}}, api.ErrArg},
		{api.Calendar{End: 1, Holidays: []int{4, 4}}, api.ErrArg},
		{api.Calendar{End: 1, Holidays: []int{5, 4}}, api.ErrArg},
		{api.Calendar{End: 1, Holidays: []int{math.MinInt, math.MaxInt}}, api.ErrArg},
		// Of several errors, the one named first.
		{api.Calendar{End: 0, Holidays: upTo(api.MaxHolidays + 1)}, api.ErrArg},
		{api.Calendar{End: 1, Rest: upTo(7), Holidays: upTo(api.MaxHolidays + 1)}, api.ErrArg},
	}
}

func TestValidate(t *testing.T) {
	for _, c := range calendars() {
		if e := num.Validate(c); e != api.OK {
			t.Errorf("P1.7: Validate(%v) is %v", c, e)
		}
	}
	for _, c := range []api.Calendar{
		{Start: 1439, End: 1440}, {Start: 0, End: 1}, {End: 1, Rest: upTo(6)}, {End: 1, Rest: []int{1, 2, 3, 4, 5, 6}},
		{End: 1, Holidays: []int{0, api.MaxDay - 1}}, {End: 1, Rest: []int{}, Holidays: []int{}},
	} {
		if e := num.Validate(c); e != api.OK {
			t.Errorf("P1.7: Validate(%v) is %v", c, e)
		}
	}
	for _, x := range badCalendars() {
		if e := num.Validate(x.c); e != x.e {
			t.Errorf("P1.7: Validate(%v) is %v, not %v", x.c, e, x.e)
		}
	}
}

// The errors of Validate come before those of the other arguments, which are wrong here in every second call.
func TestErrorsOfValidateFirst(t *testing.T) {
	for _, x := range badCalendars() {
		for _, n := range []int{0, -1} {
			if is, e := num.IsOpen(x.c, n); is || e != x.e {
				t.Errorf("P1.8, R2: IsOpen(%v, %d) is %v, %v", x.c, n, is, e)
			}
			if day, e := num.NextOpen(x.c, n); day != 0 || e != x.e {
				t.Errorf("P1.8, R2: NextOpen(%v, %d) is %v, %v", x.c, n, day, e)
			}
			if minutes, e := num.Working(x.c, n, 10); minutes != 0 || e != x.e {
				t.Errorf("P1.9, R2: Working(%v, %d, 10) is %v, %v", x.c, n, minutes, e)
			}
			if at, e := num.After(x.c, 3+n, n); at != 0 || e != x.e {
				t.Errorf("P1.9, R2: After(%v, %d, %d) is %v, %v", x.c, 3+n, n, at, e)
			}
		}
	}
}

func open(c api.Calendar, day int) bool {
	return !slices.Contains(c.Rest, day%7) && !slices.Contains(c.Holidays, day)
}

func TestOpenDays(t *testing.T) {
	for _, c := range calendars() {
		next := -1
		for day := api.MaxDay - 1; day >= 0; day-- {
			if open(c, day) {
				next = day
			}
			if is, e := num.IsOpen(c, day); is != open(c, day) || e != api.OK {
				t.Errorf("P1.8: IsOpen(%v, %d) is %v, %v", c, day, is, e)
			}
			got, e := num.NextOpen(c, day)
			if next < 0 && (got != 0 || e != api.ErrLarge) || next >= 0 && (got != next || e != api.OK) {
				t.Errorf("P1.8: NextOpen(%v, %d) is %v, %v, not %d", c, day, got, e, next)
			}
		}
		for _, day := range []int{-1, -7, api.MaxDay, api.MaxDay + 6, math.MinInt, math.MaxInt} {
			if is, e := num.IsOpen(c, day); is || e != api.ErrArg {
				t.Errorf("P1.8: IsOpen(%v, %d) is %v, %v", c, day, is, e)
			}
			if got, e := num.NextOpen(c, day); got != 0 || e != api.ErrArg {
				t.Errorf("P1.8: NextOpen(%v, %d) is %v, %v", c, day, got, e)
			}
		}
	}
	if got, e := num.NextOpen(closedAtTheEnd(), 1769); got != 1769 || e != api.OK {
		t.Error("P1.8: the last open day:", got, e)
	}
	if got, e := num.NextOpen(closedAtTheEnd(), 1770); got != 0 || e != api.ErrLarge {
		t.Error("P1.8: after the last open day:", got, e)
	}
}

// before returns, for each t, how many minutes before it are working minutes, counted one by one.
func before(c api.Calendar) []int {
	list := make([]int, endOfTime+1)
	for day := range api.MaxDay {
		is := open(c, day)
		for minute := range 1440 {
			at := day*1440 + minute
			list[at+1] = list[at]
			if is && minute >= c.Start && minute < c.End {
				list[at+1]++
			}
		}
	}
	return list
}

func times(c api.Calendar) []int {
	var list []int
	for _, day := range []int{0, 1, 4, 5, 6, 7, 8, 31, 32, 33, 230, 1768, 1769, 1770, 1776, 1993, 1998, 1999} {
		for _, minute := range []int{0, 1, c.Start - 1, c.Start, c.Start + 1, (c.Start + c.End) / 2, c.End - 1, c.End, c.End + 1, 1439} {
			list = append(list, min(max(0, day*1440+minute), endOfTime))
		}
	}
	list = append(list, endOfTime-1, endOfTime)
	slices.Sort(list)
	return slices.Compact(list)
}

func TestWorking(t *testing.T) {
	for _, c := range calendars() {
		count := before(c)
		for _, from := range times(c) {
			for _, to := range times(c) {
				got, e := num.Working(c, from, to)
				want, we := 0, api.ErrArg
				if from <= to {
					want, we = count[to]-count[from], api.OK
				}
				if got != want || e != we {
					t.Fatalf("P1.9: Working(%v, %d, %d) is %d, %v, not %d", c, from, to, got, e, want)
				}
			}
		}
		for _, x := range [][2]int{{-1, 0}, {-1, -1}, {0, endOfTime + 1}, {endOfTime + 1, endOfTime + 1}, {1, 0}, {math.MinInt, math.MaxInt}, {0, math.MaxInt}, {0, math.MinInt}} {
			if got, e := num.Working(c, x[0], x[1]); got != 0 || e != api.ErrArg {
				t.Errorf("P1.9: Working(%v, %d, %d) is %d, %v", c, x[0], x[1], got, e)
			}
		}
	}
}

func TestAfter(t *testing.T) {
	for _, c := range calendars() {
		count := before(c)
		for _, from := range times(c) {
			all := count[endOfTime] - count[from]
			day := c.End - c.Start
			for _, minutes := range []int{0, 1, 2, day - 1, day, day + 1, 2 * day, 5*day + 1, all - 1, all, all + 1, math.MaxInt} {
				if minutes < 0 {
					continue
				}
				want, we := 0, api.ErrLarge
				if minutes <= all {
					// The counts do not descend, so that the first one that is large enough is the smallest time.
					at, _ := slices.BinarySearch(count[from:], count[from]+minutes)
					want, we = from+at, api.OK
				}
				if got, e := num.After(c, from, minutes); got != want || e != we {
					t.Fatalf("P1.9: After(%v, %d, %d) is %d, %v, not %d, %v", c, from, minutes, got, e, want, we)
				}
			}
		}
		for _, x := range [][2]int{{-1, 0}, {endOfTime + 1, 0}, {0, -1}, {endOfTime, -1}, {math.MinInt, 0}, {math.MaxInt, math.MaxInt}, {0, math.MinInt}, {endOfTime + 1, math.MaxInt}} {
			if got, e := num.After(c, x[0], x[1]); got != 0 || e != api.ErrArg {
				t.Errorf("P1.9: After(%v, %d, %d) is %d, %v", c, x[0], x[1], got, e)
			}
		}
	}
}

func TestTimeExamples(t *testing.T) {
	if got, e := num.After(example(), 900, 600); got != 2*1440+540 || e != api.OK {
		t.Error("DOC.md, example 2:", got, e)
	}
	full := api.Calendar{Start: 0, End: 1440}
	if got, e := num.Working(full, 0, endOfTime); got != endOfTime || e != api.OK {
		t.Error("P1.9: all minutes:", got, e)
	}
	if got, e := num.After(full, 0, endOfTime); got != endOfTime || e != api.OK {
		t.Error("P1.9: after all minutes:", got, e)
	}
	if got, e := num.After(full, 0, endOfTime+1); got != 0 || e != api.ErrLarge {
		t.Error("P1.9: after more than all minutes:", got, e)
	}
	if got, e := num.After(full, endOfTime, 0); got != endOfTime || e != api.OK {
		t.Error("P1.9: at the end of time:", got, e)
	}
	if got, e := num.After(full, endOfTime, 1); got != 0 || e != api.ErrLarge {
		t.Error("P1.9: one minute after the end of time:", got, e)
	}
}

func TestCalendarIsNotChanged(t *testing.T) {
	rest, holidays := []int{2, 5}, []int{3, 9, 17}
	c := api.Calendar{Start: 60, End: 120, Rest: rest, Holidays: holidays}
	num.Validate(c)
	num.IsOpen(c, 3)
	num.NextOpen(c, 9)
	num.Working(c, 0, endOfTime)
	num.After(c, 5, 500)
	if !slices.Equal(rest, []int{2, 5}) || !slices.Equal(holidays, []int{3, 9, 17}) {
		t.Errorf("R5: a call has changed the calendar to %v, %v", rest, holidays)
	}
}
