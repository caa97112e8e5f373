package day_test

import (
	"math"
	"testing"
	"time"

	"bordereau/api"
	"bordereau/day"
)

// again is how many days the calendar takes to be the same again.
const again = 146097

// noDays are numbers just past both bounds, and the greatest and least there are.
func noDays() []int {
	return []int{0, -1, -again, api.MaxDay + 1, api.MaxDay + 2, api.MaxDay + again, 1 << 32, 1<<32 + 1, math.MaxInt - 1, math.MaxInt, math.MinInt, math.MinInt + 1}
}

// wholeCalendar are all days by the library's calendar, each at the place of its number; place 0 is no day.
func wholeCalendar() []api.Civil {
	days := []api.Civil{{}}
	at := time.Date(1601, time.January, 1, 0, 0, 0, 0, time.UTC)
	for at.Year() <= 2400 {
		days = append(days, api.Civil{Y: at.Year(), M: int(at.Month()), D: at.Day()})
		at = at.AddDate(0, 0, 1)
	}
	return days
}

// lastDay is a month's last day by the library's calendar, which takes the day ahead of a month's first one for it.
func lastDay(y, m int) int {
	return time.Date(y, time.Month(m+1), 0, 0, 0, 0, 0, time.UTC).Day()
}

func checkNumber(t *testing.T, c api.Civil, want int, code api.Errno) {
	t.Helper()
	if got, e := day.Number(c); got != want || e != code {
		t.Errorf("Number(%v): %d, code %d; want %d, code %d", c, got, e, want, code)
	}
}

func checkOf(t *testing.T, n int, want api.Civil, code api.Errno) {
	t.Helper()
	if got, e := day.Of(n); got != want || e != code {
		t.Errorf("Of(%d): %v, code %d; want %v, code %d", n, got, e, want, code)
	}
}

func checkYear(t *testing.T, n, want int, code api.Errno) {
	t.Helper()
	if got, e := day.Year(n); got != want || e != code {
		t.Errorf("Year(%d): %d, code %d; want %d, code %d", n, got, e, want, code)
	}
}

func checkFirst(t *testing.T, y, want int, code api.Errno) {
	t.Helper()
	if got, e := day.First(y); got != want || e != code {
		t.Errorf("First(%d): %d, code %d; want %d, code %d", y, got, e, want, code)
	}
}

func checkShift(t *testing.T, n, months, want int, code api.Errno) {
	t.Helper()
	if got, e := day.Shift(n, months); got != want || e != code {
		t.Errorf("Shift(%d, %d): %d, code %d; want %d, code %d", n, months, got, e, want, code)
	}
}

func TestP2_1Leap(t *testing.T) {
	for _, y := range []int{0, 4, -4, 400, -400, 96, -96, 1600, 1604, 1996, 2000, 2024, 2396, 2400, math.MinInt, math.MaxInt - 3} {
		if !day.Leap(y) {
			t.Errorf("Leap(%d): false", y)
		}
	}
	for _, y := range []int{1, 2, 3, -1, -2, -3, 100, -100, 200, 300, -300, 1601, 1602, 1603, 1700, 1800, 1900, 2023, 2100, 2200, 2300, math.MaxInt, math.MaxInt - 1, math.MinInt + 1} {
		if day.Leap(y) {
			t.Errorf("Leap(%d): true", y)
		}
	}
	for y := -2000; y <= 4000; y++ {
		if want := lastDay(y, 2) == 29; day.Leap(y) != want {
			t.Errorf("Leap(%d): %v", y, !want)
		}
	}
}

func TestP2_1LengthsOfYearsAndMonths(t *testing.T) {
	lengths := [12]int{31, 28, 31, 30, 31, 30, 31, 31, 30, 31, 30, 31}
	for y := 1601; y <= 2400; y++ {
		days := 0
		for m, length := range lengths {
			if m == 1 && day.Leap(y) {
				length++
			}
			last, _ := day.First(y)
			days += length
			checkNumber(t, api.Civil{Y: y, M: m + 1, D: length}, last+days-1, api.OK)
			checkNumber(t, api.Civil{Y: y, M: m + 1, D: length + 1}, 0, api.ErrDay)
		}
		this, _ := day.First(y)
		next, _ := day.First(y + 1)
		if next-this != days {
			t.Errorf("year %d: from %d to %d, want %d days", y, this, next, days)
		}
	}
}

func TestP2_2NumberAndOf(t *testing.T) {
	for _, x := range []struct {
		c api.Civil
		n int
	}{
		{api.Civil{Y: 1601, M: 1, D: 1}, 1}, {api.Civil{Y: 1601, M: 1, D: 31}, 31}, {api.Civil{Y: 1601, M: 2, D: 1}, 32}, {api.Civil{Y: 1601, M: 12, D: 31}, 365},
		{api.Civil{Y: 1602, M: 1, D: 1}, 366}, {api.Civil{Y: 1604, M: 2, D: 29}, 1155}, {api.Civil{Y: 1604, M: 12, D: 31}, 1461}, {api.Civil{Y: 1605, M: 1, D: 1}, 1462},
		{api.Civil{Y: 1700, M: 12, D: 31}, 36524}, {api.Civil{Y: 2000, M: 2, D: 28}, 145790}, {api.Civil{Y: 2000, M: 2, D: 29}, 145791}, {api.Civil{Y: 2000, M: 3, D: 1}, 145792},
		{api.Civil{Y: 2000, M: 12, D: 31}, again}, {api.Civil{Y: 2001, M: 1, D: 1}, again + 1}, {api.Civil{Y: 2400, M: 2, D: 29}, 291888}, {api.Civil{Y: 2400, M: 12, D: 31}, api.MaxDay},
	} {
		checkNumber(t, x.c, x.n, api.OK)
		checkOf(t, x.n, x.c, api.OK)
	}
}

func TestP2_2NumberRefuses(t *testing.T) {
	for _, c := range []api.Civil{
		{}, {Y: 1600, M: 12, D: 31}, {Y: 2401, M: 1, D: 1}, {Y: 0, M: 1, D: 1}, {Y: -1601, M: 1, D: 1}, {Y: math.MaxInt, M: 1, D: 1}, {Y: math.MinInt, M: 1, D: 1},
		{Y: 2000, M: 0, D: 1}, {Y: 2000, M: 13, D: 1}, {Y: 2000, M: -1, D: 1}, {Y: 2000, M: math.MaxInt, D: 1}, {Y: 2000, M: math.MinInt, D: 1},
		{Y: 2000, M: 1, D: 0}, {Y: 2000, M: 1, D: 32}, {Y: 2000, M: 1, D: -1}, {Y: 2000, M: 1, D: math.MaxInt}, {Y: 2000, M: 1, D: math.MinInt},
		{Y: 1601, M: 2, D: 29}, {Y: 1900, M: 2, D: 29}, {Y: 2000, M: 2, D: 30}, {Y: 2000, M: 4, D: 31}, {Y: 2400, M: 12, D: 32}, {Y: 1601, M: 1, D: 0},
		{Y: math.MaxInt, M: math.MaxInt, D: math.MaxInt}, {Y: math.MinInt, M: math.MinInt, D: math.MinInt}, {Y: 2401, M: 13, D: 32}, {Y: 2401, M: 0, D: 1},
	} {
		checkNumber(t, c, 0, api.ErrDay)
	}
}

func TestP2_2P2_3RefuseNoDays(t *testing.T) {
	for _, n := range noDays() {
		checkOf(t, n, api.Civil{}, api.ErrDay)
		checkYear(t, n, 0, api.ErrDay)
	}
}

func TestP2_2P2_3EveryDay(t *testing.T) {
	days := wholeCalendar()
	if len(days)-1 != api.MaxDay {
		t.Fatalf("%d days; want %d", len(days)-1, api.MaxDay)
	}
	for n, c := range days[1:] {
		checkNumber(t, c, n+1, api.OK)
		checkOf(t, n+1, c, api.OK)
		checkYear(t, n+1, c.Y, api.OK)
	}
}

func TestP2_3Year(t *testing.T) {
	for n, want := range map[int]int{1: 1601, 365: 1601, 366: 1602, 1461: 1604, 1462: 1605, again: 2000, again + 1: 2001, 291828: 2399, 291829: 2400, api.MaxDay: 2400} {
		checkYear(t, n, want, api.OK)
	}
}

func TestP2_3First(t *testing.T) {
	for y, want := range map[int]int{1601: 1, 1602: 366, 1604: 1096, 1605: 1462, 1701: 36525, 2000: 145732, 2001: again + 1, 2400: 291829, 2401: api.MaxDay + 1} {
		checkFirst(t, y, want, api.OK)
	}
	for y := 1601; y <= 2400; y++ {
		want, _ := day.Number(api.Civil{Y: y, M: 1, D: 1})
		checkFirst(t, y, want, api.OK)
	}
	for _, y := range []int{1600, 2402, 0, 1, -1601, -2000, 2800, math.MaxInt, math.MinInt} {
		checkFirst(t, y, 0, api.ErrDay)
	}
}

func TestP2_4Shift(t *testing.T) {
	for _, x := range []struct{ n, months, want int }{
		{31, 1, 59}, {31, 2, 90}, {31, 3, 120}, {31, 12, 396}, {31, 37, 1155}, {59, -1, 28}, {90, -1, 59}, {90, -2, 31},
		{1, 0, 1}, {1155, 0, 1155}, {api.MaxDay, 0, api.MaxDay}, {1155, 12, 1520}, {1155, -12, 789}, {1155, 48, 2616}, {2616, -48, 1155},
		{365, 1, 396}, {366, -1, 335}, {1, 11, 335}, {1, 12, 366}, {335, -11, 1}, {1, 9599, 292164}, {31, 9599, api.MaxDay}, {api.MaxDay, -9599, 31},
		{292164, -9599, 1}, {api.MaxDay, -10, 291888}, {145791, 1200, 182315}, {145791, 4800, 291888},
	} {
		checkShift(t, x.n, x.months, x.want, api.OK)
	}
}

func TestP2_4ShiftRefuses(t *testing.T) {
	for _, n := range noDays() {
		for _, months := range []int{0, 1, -1, 12, -9600, math.MaxInt, math.MinInt} {
			checkShift(t, n, months, 0, api.ErrDay)
		}
	}
	for _, x := range []struct{ n, months int }{
		{1, -1}, {31, -1}, {32, -2}, {365, -12}, {1, 9600}, {31, 9600}, {32, 9599}, {292164, 1}, {api.MaxDay, 1}, {292163, 2}, {api.MaxDay, -9600},
		{1, 1 << 32}, {1, -1 << 32}, {api.MaxDay, 1 << 32}, {api.MaxDay, -1 << 32},
	} {
		checkShift(t, x.n, x.months, 0, api.ErrDay)
	}
	for _, n := range []int{1, 31, 32, 1155, again, 292163, api.MaxDay} {
		for _, months := range []int{math.MaxInt, math.MaxInt - 1, math.MaxInt - 9599, math.MinInt, math.MinInt + 1, math.MinInt + 9599} {
			checkShift(t, n, months, 0, api.ErrDay)
		}
	}
}

// shifted is the day so many months behind c, by the library's calendar, or ErrDay, if its year isn't from 1601 to 2400.
func shifted(c api.Civil, months int) (int, api.Errno) {
	first := time.Date(c.Y, time.Month(c.M+months), 1, 0, 0, 0, 0, time.UTC)
	if first.Year() < 1601 || first.Year() > 2400 {
		return 0, api.ErrDay
	}
	y, m := first.Year(), int(first.Month())
	want, _ := day.Number(api.Civil{Y: y, M: m, D: min(c.D, lastDay(y, m))})
	return want, api.OK
}

func TestP2_4ShiftOfManyDays(t *testing.T) {
	byMonths := []int{-9600, -9599, -4801, -4800, -1200, -49, -48, -13, -12, -11, -7, -3, -2, -1, 0, 1, 2, 3, 5, 11, 12, 13, 24, 48, 49, 1200, 4799, 4800, 9599, 9600}
	days := wholeCalendar()
	for n := 1; n < len(days); n++ {
		// Months differ in their ends, so that days in their midst are left out but for the years next to a bound.
		if c := days[n]; c.D > 1 && c.D < 28 && c.Y != 1601 && c.Y != 2400 {
			continue
		}
		for _, months := range byMonths {
			want, code := shifted(days[n], months)
			checkShift(t, n, months, want, code)
		}
	}
}

func TestP2_5DaysAreCountedOnEnd(t *testing.T) {
	before, _ := day.Of(1)
	for n := 2; n <= api.MaxDay; n++ {
		c, code := day.Of(n)
		next := api.Civil{Y: before.Y, M: before.M, D: before.D + 1}
		if c != next {
			next = api.Civil{Y: before.Y, M: before.M + 1, D: 1}
		}
		if c != next {
			next = api.Civil{Y: before.Y + 1, M: 1, D: 1}
		}
		if code != api.OK || c != next {
			t.Fatalf("Of(%d): %v, code %d, behind %v", n, c, code, before)
		}
		before = c
	}
}

func TestP2_5TheCalendarIsTheSameAgain(t *testing.T) {
	for n := 1; n+again <= api.MaxDay; n++ {
		c, _ := day.Of(n)
		c.Y += 400
		checkOf(t, n+again, c, api.OK)
		checkNumber(t, c, n+again, api.OK)
	}
}
