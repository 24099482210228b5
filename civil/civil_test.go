package civil_test

import (
	"math"
	"testing"

	"cascade/civil"
)

// days is how many dates there are, and the number behind the last one's.
const days = 3652059

// allMonths is how many months there are, from the year 1 to 9999.
const allMonths = 9999 * 12

func day(y, m, d int) civil.Date { return civil.Date{Y: y, M: m, D: d} }

// wrong are dates that are none.
var wrong = []civil.Date{
	{},
	day(0, 1, 1), day(0, 12, 31), day(10000, 1, 1), day(-1, 1, 1), day(-4, 2, 29), day(-400, 2, 29),
	day(math.MinInt, 1, 1), day(math.MaxInt, 1, 1),
	day(2024, 0, 1), day(2024, 13, 1), day(2024, -1, 1), day(2024, math.MinInt, 1), day(2024, math.MaxInt, 1),
	day(1, 0, 31), day(9999, 13, 1),
	day(2024, 1, 0), day(2024, 1, -1), day(2024, 1, math.MinInt), day(2024, 1, math.MaxInt),
	day(2024, 1, 32), day(2024, 3, 32), day(2024, 4, 31), day(2024, 5, 32), day(2024, 6, 31), day(2024, 7, 32),
	day(2024, 8, 32), day(2024, 9, 31), day(2024, 10, 32), day(2024, 11, 31), day(2024, 12, 32),
	day(2023, 2, 29), day(2024, 2, 30), day(1900, 2, 29), day(2000, 2, 30), day(2100, 2, 29), day(1, 2, 29), day(9999, 2, 29),
	day(1, 1, 0), day(9999, 12, 32),
	day(math.MinInt, math.MinInt, math.MinInt), day(math.MaxInt, math.MaxInt, math.MaxInt),
}

// lengths are a year's months in the test's own words: the leap rule is said
// there the other way round, as the exceptions that overrule each other, lest
// both have one fault.
func lengths(y int) [13]int {
	l := [13]int{0, 31, 28, 31, 30, 31, 30, 31, 31, 30, 31, 30, 31}
	switch {
	case y%400 == 0:
		l[2] = 29
	case y%100 == 0:
	case y%4 == 0:
		l[2] = 29
	}
	return l
}

// P2.1
func TestLast(t *testing.T) {
	for _, c := range []struct{ y, m, want int }{
		{2023, 1, 31}, {2023, 2, 28}, {2023, 3, 31}, {2023, 4, 30}, {2023, 5, 31}, {2023, 6, 30},
		{2023, 7, 31}, {2023, 8, 31}, {2023, 9, 30}, {2023, 10, 31}, {2023, 11, 30}, {2023, 12, 31},
		{2024, 2, 29}, {2022, 2, 28}, {4, 2, 29}, {9996, 2, 29},
		{1900, 2, 28}, {2100, 2, 28}, {100, 2, 28}, {9900, 2, 28},
		{2000, 2, 29}, {400, 2, 29}, {1600, 2, 29}, {9600, 2, 29},
		{1, 1, 31}, {1, 2, 28}, {1, 12, 31}, {9999, 1, 31}, {9999, 2, 28}, {9999, 12, 31},
		{0, 1, 0}, {0, 2, 0}, {0, 12, 0}, {10000, 1, 0}, {10000, 2, 0}, {-1, 1, 0}, {-4, 2, 0}, {-400, 2, 0},
		{2024, 0, 0}, {2024, 13, 0}, {2024, -1, 0}, {2024, 14, 0}, {1, 0, 0}, {9999, 13, 0}, {0, 0, 0},
		{math.MinInt, 2, 0}, {math.MaxInt, 2, 0}, {2024, math.MinInt, 0}, {2024, math.MaxInt, 0},
		{math.MinInt, math.MinInt, 0}, {math.MaxInt, math.MaxInt, 0},
	} {
		if got := civil.Last(c.y, c.m); got != c.want {
			t.Errorf("Last(%d, %d) = %d; want %d", c.y, c.m, got, c.want)
		}
	}
}

// P2.1
func TestLastOfEveryMonth(t *testing.T) {
	for y := 1; y <= 9999; y++ {
		l := lengths(y)
		for m := 1; m <= 12; m++ {
			if got := civil.Last(y, m); got != l[m] {
				t.Fatalf("Last(%d, %d) = %d; want %d", y, m, got, l[m])
			}
		}
	}
}

// P2.1
func TestRight(t *testing.T) {
	for _, d := range []civil.Date{
		day(1, 1, 1), day(9999, 12, 31), day(2024, 2, 29), day(2000, 2, 29), day(1900, 2, 28), day(2023, 2, 28),
		day(2024, 1, 31), day(2024, 4, 30), day(2024, 12, 1), day(1, 12, 31), day(9999, 1, 1),
	} {
		if !d.Right() {
			t.Error(d, "is right")
		}
	}
	for _, d := range wrong {
		if d.Right() {
			t.Error(d, "is not right")
		}
	}
}

// P2.1: each day that a month may have, and those beside them.
func TestRightOfEveryMonth(t *testing.T) {
	for y := 0; y <= 10000; y++ {
		l := lengths(y)
		if y == 0 || y == 10000 {
			l = [13]int{}
		}
		for m := 1; m <= 12; m++ {
			for d := -1; d <= 33; d++ {
				if got := day(y, m, d).Right(); got != (d >= 1 && d <= l[m]) {
					t.Fatalf("%v.Right() = %v", day(y, m, d), got)
				}
			}
		}
	}
}

// P2.2
func TestNumber(t *testing.T) {
	for _, c := range []struct {
		d    civil.Date
		want int
	}{
		{day(1, 1, 1), 0}, {day(1, 1, 2), 1}, {day(1, 1, 31), 30}, {day(1, 2, 1), 31}, {day(1, 2, 28), 58}, {day(1, 3, 1), 59},
		{day(1, 12, 31), 364}, {day(2, 1, 1), 365}, {day(4, 2, 29), 1154}, {day(4, 12, 31), 1460}, {day(5, 1, 1), 1461},
		{day(100, 12, 31), 36523}, {day(101, 1, 1), 36524}, {day(400, 12, 31), 146096}, {day(401, 1, 1), 146097},
		{day(1970, 1, 1), 719162}, {day(2000, 1, 1), 730119}, {day(2000, 12, 31), 730484}, {day(2001, 1, 1), 730485},
		{day(9999, 1, 1), days - 365}, {day(9999, 12, 30), days - 2}, {day(9999, 12, 31), days - 1},
	} {
		if got := c.d.Number(); got != c.want {
			t.Errorf("%v.Number() = %d; want %d", c.d, got, c.want)
		}
		if got := civil.Of(c.want); got != c.d {
			t.Errorf("Of(%d) = %v; want %v", c.want, got, c.d)
		}
	}
	if got := day(2000, 3, 1).Number() - day(2000, 2, 28).Number(); got != 2 {
		t.Error("from 28 February to 1 March 2000:", got)
	}
	if got := day(1900, 3, 1).Number() - day(1900, 2, 28).Number(); got != 1 {
		t.Error("from 28 February to 1 March 1900:", got)
	}
}

// P2.2
func TestNumberOfWrongDates(t *testing.T) {
	for _, d := range wrong {
		if got := d.Number(); got != -1 {
			t.Errorf("%v.Number() = %d", d, got)
		}
	}
}

// P2.2
func TestOfNumbersThatNoDateHas(t *testing.T) {
	for _, n := range []int{
		-1, -2, -365, -days, days, days + 1, days + 364, 2 * days, math.MinInt32, math.MaxInt32,
		math.MinInt, math.MinInt + 1, math.MaxInt - 1, math.MaxInt,
	} {
		if got := civil.Of(n); got != (civil.Date{}) {
			t.Errorf("Of(%d) = %v", n, got)
		}
	}
}

// P2.2: every date there is, counted one by one.
func TestNumberOfEveryDate(t *testing.T) {
	n := 0
	for y := 1; y <= 9999; y++ {
		l := lengths(y)
		for m := 1; m <= 12; m++ {
			for d := 1; d <= l[m]; d++ {
				if got := day(y, m, d).Number(); got != n {
					t.Fatalf("%v.Number() = %d; want %d", day(y, m, d), got, n)
				}
				if got := civil.Of(n); got != day(y, m, d) {
					t.Fatalf("Of(%d) = %v; want %v", n, got, day(y, m, d))
				}
				n++
			}
		}
	}
	if n != days {
		t.Error("dates in all:", n)
	}
}

// P2.3
func TestShift(t *testing.T) {
	for _, c := range []struct {
		d      civil.Date
		months int
		want   civil.Date
	}{
		{day(2024, 1, 15), 0, day(2024, 1, 15)},
		{day(2024, 1, 15), 1, day(2024, 2, 15)},
		{day(2024, 1, 15), 11, day(2024, 12, 15)},
		{day(2024, 1, 15), 12, day(2025, 1, 15)},
		{day(2024, 12, 15), 1, day(2025, 1, 15)},
		{day(2024, 12, 15), 12, day(2025, 12, 15)},
		{day(2024, 1, 15), -1, day(2023, 12, 15)},
		{day(2024, 12, 15), -11, day(2024, 1, 15)},
		{day(2024, 12, 15), -12, day(2023, 12, 15)},
		{day(2024, 6, 1), 1200, day(2124, 6, 1)},
		{day(2024, 6, 1), -1200, day(1924, 6, 1)},
		// To a month that lacks the day.
		{day(2024, 1, 31), 1, day(2024, 2, 29)},
		{day(2024, 1, 31), 13, day(2025, 2, 28)},
		{day(2024, 1, 30), 1, day(2024, 2, 29)},
		{day(2024, 1, 29), 1, day(2024, 2, 29)},
		{day(2023, 1, 29), 1, day(2023, 2, 28)},
		{day(2024, 1, 31), 3, day(2024, 4, 30)},
		{day(2024, 3, 31), -1, day(2024, 2, 29)},
		{day(2023, 3, 31), -1, day(2023, 2, 28)},
		{day(2024, 1, 31), -2, day(2023, 11, 30)},
		{day(2024, 2, 29), 12, day(2025, 2, 28)},
		{day(2024, 2, 29), -12, day(2023, 2, 28)},
		{day(2024, 2, 29), 48, day(2028, 2, 29)},
		{day(2096, 2, 29), 48, day(2100, 2, 28)},
		{day(1996, 2, 29), 48, day(2000, 2, 29)},
		{day(2000, 2, 29), -1200, day(1900, 2, 28)},
		// A last day stays the same day in a longer month.
		{day(2024, 2, 29), 1, day(2024, 3, 29)},
		{day(2023, 2, 28), 1, day(2023, 3, 28)},
		{day(2024, 4, 30), 1, day(2024, 5, 30)},
		{day(2024, 4, 30), -1, day(2024, 3, 30)},
		// At the calendar's ends.
		{day(1, 2, 1), -1, day(1, 1, 1)},
		{day(1, 1, 1), 0, day(1, 1, 1)},
		{day(1, 12, 31), -11, day(1, 1, 31)},
		{day(9999, 12, 31), 0, day(9999, 12, 31)},
		{day(9999, 11, 30), 1, day(9999, 12, 30)},
		{day(9999, 1, 31), 11, day(9999, 12, 31)},
		{day(1, 1, 31), allMonths - 1, day(9999, 12, 31)},
		{day(9999, 12, 31), 1 - allMonths, day(1, 1, 31)},
	} {
		if got := c.d.Shift(c.months); got != c.want {
			t.Errorf("%v.Shift(%d) = %v; want %v", c.d, c.months, got, c.want)
		}
	}
}

// P2.3
func TestShiftOutOfTheCalendar(t *testing.T) {
	for _, c := range []struct {
		d      civil.Date
		months int
	}{
		{day(1, 1, 1), -1}, {day(1, 1, 31), -1}, {day(1, 1, 1), -12}, {day(1, 12, 31), -12}, {day(1, 6, 30), -6},
		{day(9999, 12, 1), 1}, {day(9999, 12, 31), 1}, {day(9999, 12, 31), 12}, {day(9999, 1, 1), 12}, {day(9999, 6, 30), 7},
		{day(1, 1, 5), allMonths}, {day(9999, 12, 5), -allMonths},
		{day(2024, 1, 1), allMonths}, {day(2024, 1, 1), -allMonths},
	} {
		if got := c.d.Shift(c.months); got != (civil.Date{}) {
			t.Errorf("%v.Shift(%d) = %v", c.d, c.months, got)
		}
	}
}

// extremes are months that no calendar holds; those of 32 bits and one more would
// come back into it, if a sum were cut short.
var extremes = []int{
	math.MinInt, math.MinInt + 1, math.MinInt + 12*2024, math.MinInt / 12, math.MinInt32 - 1, math.MinInt32,
	math.MaxInt32, math.MaxInt32 + 1, 1 << 32, -1 << 32, math.MaxInt / 12, math.MaxInt - 12*2024, math.MaxInt - 1, math.MaxInt,
}

// P2.3
func TestShiftByAnyInt(t *testing.T) {
	for _, d := range []civil.Date{day(1, 1, 1), day(1, 12, 31), day(2024, 2, 29), day(9999, 1, 1), day(9999, 12, 31)} {
		for _, months := range extremes {
			if got := d.Shift(months); got != (civil.Date{}) {
				t.Errorf("%v.Shift(%d) = %v", d, months, got)
			}
		}
	}
}

// P2.3
func TestShiftOfWrongDates(t *testing.T) {
	for _, d := range wrong {
		for _, months := range append([]int{-allMonths, -12, -1, 0, 1, 12, allMonths}, extremes...) {
			if got := d.Shift(months); got != (civil.Date{}) {
				t.Errorf("%v.Shift(%d) = %v", d, months, got)
			}
		}
	}
}

// P2.3: from each of these to every month there is, gone through one by one.
func TestShiftToEveryMonth(t *testing.T) {
	for _, from := range []civil.Date{
		day(1, 1, 31), day(1, 12, 1), day(1900, 2, 28), day(2000, 2, 29), day(2024, 1, 30), day(2024, 7, 31), day(9999, 12, 31),
	} {
		months := -((from.Y-1)*12 + from.M - 1)
		if got := from.Shift(months - 1); got != (civil.Date{}) {
			t.Errorf("%v.Shift(%d) = %v", from, months-1, got)
		}
		for y := 1; y <= 9999; y++ {
			l := lengths(y)
			for m := 1; m <= 12; m++ {
				want := day(y, m, from.D)
				if from.D > l[m] {
					want.D = l[m]
				}
				if got := from.Shift(months); got != want {
					t.Fatalf("%v.Shift(%d) = %v; want %v", from, months, got, want)
				}
				months++
			}
		}
		if got := from.Shift(months); got != (civil.Date{}) {
			t.Errorf("%v.Shift(%d) = %v", from, months, got)
		}
	}
}

// P2.4
func TestBefore(t *testing.T) {
	rising := []civil.Date{
		day(1, 1, 1), day(1, 1, 2), day(1, 2, 1), day(1, 12, 31), day(2, 1, 1), day(1899, 12, 31), day(1900, 2, 28),
		day(1900, 3, 1), day(2000, 2, 28), day(2000, 2, 29), day(2000, 3, 1), day(2023, 12, 31), day(2024, 1, 1),
		day(2024, 1, 31), day(2024, 2, 1), day(9999, 12, 30), day(9999, 12, 31),
	}
	for i, d := range rising {
		for j, o := range rising {
			if got := d.Before(o); got != (i < j) {
				t.Errorf("%v.Before(%v) = %v", d, o, got)
			}
		}
	}
}

// P2.4: what isn't right has the number -1, whatever its fields are.
func TestBeforeOfWrongDates(t *testing.T) {
	for _, d := range wrong {
		for _, o := range []civil.Date{day(1, 1, 1), day(2024, 2, 29), day(9999, 12, 31)} {
			if !d.Before(o) {
				t.Errorf("%v.Before(%v) = false", d, o)
			}
			if o.Before(d) {
				t.Errorf("%v.Before(%v) = true", o, d)
			}
		}
		for _, o := range wrong {
			if d.Before(o) {
				t.Errorf("%v.Before(%v) = true", d, o)
			}
		}
	}
}

// Ways: the methods are ones on values, and leave the value as it was.
func TestDatesAreValues(t *testing.T) {
	d := day(2024, 1, 31)
	shift := d.Shift
	d.D = 1
	if got := shift(1); got != day(2024, 2, 29) {
		t.Error("a method value keeps its date:", got)
	}
	d.Shift(1)
	if d != day(2024, 1, 1) {
		t.Error("a date was changed:", d)
	}
	if n := map[civil.Date]int{day(1, 1, 1): 7}[civil.Of(0)]; n != 7 {
		t.Error("dates alike are one key")
	}
}
