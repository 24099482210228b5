package accrual_test

import (
	"math"
	"math/big"
	"testing"

	"cascade/accrual"
	"cascade/api"
	"cascade/cents"
	"cascade/civil"
)

const top = cents.Top

func day(y, m, d int) civil.Date { return civil.Date{Y: y, M: m, D: d} }

var (
	first = day(1, 1, 1)
	last  = day(9999, 12, 31)
)

var bases = []int{api.B30360, api.BAct360, api.BAct365}

// noBases are numbers that name no basis.
var noBases = []int{math.MinInt, -360, -2, -1, 3, 4, 7, 30, 360, 365, math.MaxInt}

// wrong are dates that are none.
var wrong = []civil.Date{
	{}, day(0, 1, 1), day(10000, 1, 1), day(-2024, 1, 1), day(2024, 0, 15), day(2024, 13, 15),
	day(2024, 1, 0), day(2024, 1, 32), day(2024, 4, 31), day(2024, 2, 30), day(2023, 2, 29), day(1900, 2, 29),
	day(math.MinInt, 1, 1), day(math.MaxInt, 1, 1), day(2024, math.MinInt, 1), day(2024, math.MaxInt, 1),
	day(2024, 1, math.MinInt), day(2024, 1, math.MaxInt),
	day(math.MinInt, math.MinInt, math.MinInt), day(math.MaxInt, math.MaxInt, math.MaxInt),
}

// yearOf is how many days a basis's year has, in the test's own words.
func yearOf(basis int) int {
	return map[int]int{api.B30360: 360, api.BAct360: 360, api.BAct365: 365}[basis]
}

// P3.1
func TestDays(t *testing.T) {
	for _, c := range []struct {
		from, to           civil.Date
		commercial, actual int
	}{
		// One day, and days of one month.
		{day(2024, 1, 1), day(2024, 1, 1), 0, 0},
		{day(2024, 1, 30), day(2024, 1, 30), 0, 0},
		{day(2024, 1, 31), day(2024, 1, 31), 0, 0},
		{day(2024, 2, 29), day(2024, 2, 29), 0, 0},
		{day(2024, 1, 1), day(2024, 1, 2), 1, 1},
		{day(2024, 1, 1), day(2024, 1, 30), 29, 29},
		{day(2024, 1, 1), day(2024, 1, 31), 30, 30},
		{day(2024, 1, 29), day(2024, 1, 31), 2, 2},
		{day(2024, 1, 29), day(2024, 1, 30), 1, 1},
		{day(2024, 1, 30), day(2024, 1, 31), 0, 1},
		{day(2024, 2, 28), day(2024, 2, 29), 1, 1},
		// From and to on the 30th and on the 31st.
		{day(2024, 1, 31), day(2024, 3, 31), 60, 60},
		{day(2024, 1, 30), day(2024, 3, 31), 60, 61},
		{day(2024, 1, 31), day(2024, 3, 30), 60, 59},
		{day(2024, 1, 30), day(2024, 3, 30), 60, 60},
		{day(2024, 1, 29), day(2024, 3, 31), 62, 62},
		{day(2024, 1, 29), day(2024, 3, 30), 61, 61},
		{day(2024, 1, 15), day(2024, 3, 31), 76, 76},
		{day(2024, 1, 31), day(2024, 3, 29), 59, 58},
		{day(2024, 1, 31), day(2024, 2, 1), 1, 1},
		{day(2024, 4, 30), day(2024, 5, 31), 30, 31},
		{day(2024, 4, 30), day(2024, 5, 1), 1, 1},
		{day(2024, 7, 31), day(2024, 8, 31), 30, 31},
		{day(2023, 12, 31), day(2024, 1, 31), 30, 31},
		// From and to on February's last day: it is no 30th.
		{day(2024, 2, 29), day(2024, 3, 29), 30, 29},
		{day(2024, 2, 29), day(2024, 3, 30), 31, 30},
		{day(2024, 2, 29), day(2024, 3, 31), 32, 31},
		{day(2024, 2, 29), day(2024, 3, 1), 2, 1},
		{day(2023, 2, 28), day(2023, 3, 31), 33, 31},
		{day(2023, 2, 28), day(2023, 3, 1), 3, 1},
		{day(2024, 1, 31), day(2024, 2, 29), 29, 29},
		{day(2024, 1, 30), day(2024, 2, 29), 29, 30},
		{day(2023, 1, 31), day(2023, 2, 28), 28, 28},
		{day(2023, 2, 28), day(2024, 2, 29), 361, 366},
		{day(2024, 2, 29), day(2025, 2, 28), 359, 365},
		// Months and years apart.
		{day(2023, 12, 15), day(2024, 1, 15), 30, 31},
		{day(2023, 12, 31), day(2024, 1, 1), 1, 1},
		{day(2023, 12, 30), day(2024, 1, 1), 1, 2},
		{day(2023, 11, 20), day(2024, 2, 10), 80, 82},
		{day(2024, 1, 1), day(2024, 12, 31), 360, 365},
		{day(2024, 1, 1), day(2025, 1, 1), 360, 366},
		{day(2023, 1, 1), day(2024, 1, 1), 360, 365},
		{day(2000, 6, 15), day(2010, 6, 15), 3600, 3652},
		{day(1900, 1, 1), day(2000, 1, 1), 36000, 36524},
		// The calendar's ends.
		{first, first, 0, 0},
		{last, last, 0, 0},
		{first, day(1, 1, 31), 30, 30},
		{day(9999, 12, 1), last, 30, 30},
		{day(9999, 12, 30), last, 0, 1},
		{first, day(9999, 1, 1), 3599280, 3651694},
		{first, last, 3599640, 3652058},
		{day(1, 1, 31), last, 3599610, 3652028},
	} {
		for _, q := range []struct{ basis, n, of int }{
			{api.B30360, c.commercial, 360}, {api.BAct360, c.actual, 360}, {api.BAct365, c.actual, 365},
		} {
			if n, of := accrual.Days(q.basis, c.from, c.to); n != q.n || of != q.of {
				t.Errorf("Days(%d, %v, %v) = %d, %d; want %d, %d", q.basis, c.from, c.to, n, of, q.n, q.of)
			}
		}
	}
}

// P3.1
func TestDaysByNoBasis(t *testing.T) {
	for _, basis := range noBases {
		for _, c := range [][2]civil.Date{
			{day(2024, 1, 1), day(2024, 2, 1)}, {first, last}, {day(2024, 1, 1), day(2024, 1, 1)},
			{day(2024, 2, 1), day(2024, 1, 1)}, {{}, day(2024, 1, 1)}, {day(2024, 1, 1), {}}, {},
		} {
			if n, of := accrual.Days(basis, c[0], c[1]); n != 0 || of != 360 {
				t.Errorf("Days(%d, %v, %v) = %d, %d", basis, c[0], c[1], n, of)
			}
		}
	}
}

// P3.1
func TestDaysOfWrongDates(t *testing.T) {
	for _, basis := range bases {
		for _, d := range wrong {
			for _, o := range append([]civil.Date{first, day(2024, 2, 29), last}, wrong...) {
				if n, of := accrual.Days(basis, d, o); n != 0 || of != yearOf(basis) {
					t.Errorf("Days(%d, %v, %v) = %d, %d", basis, d, o, n, of)
				}
				if n, of := accrual.Days(basis, o, d); n != 0 || of != yearOf(basis) {
					t.Errorf("Days(%d, %v, %v) = %d, %d", basis, o, d, n, of)
				}
			}
		}
	}
}

// P3.1
func TestDaysOfATimeThatGoesBack(t *testing.T) {
	for _, basis := range bases {
		for _, c := range [][2]civil.Date{
			{day(2024, 1, 2), day(2024, 1, 1)}, {day(2024, 1, 31), day(2024, 1, 30)}, {day(2024, 3, 1), day(2024, 2, 29)},
			{day(2024, 2, 1), day(2024, 1, 31)}, {day(2024, 1, 1), day(2023, 12, 31)}, {day(2025, 1, 1), day(2024, 12, 31)},
			{last, first},
		} {
			if n, of := accrual.Days(basis, c[0], c[1]); n != 0 || of != yearOf(basis) {
				t.Errorf("Days(%d, %v, %v) = %d, %d", basis, c[0], c[1], n, of)
			}
		}
	}
}

// walkCommercial is B30360 of P3.1 by going day by day through a calendar whose
// months have 30 days, to the 30th at most; a 31st that stays one is a step
// more.
func walkCommercial(from, to civil.Date) int {
	if from.D == 31 {
		from.D = 30
	}
	n := 0
	if to.D == 31 {
		to.D = 30
		if from.D != 30 {
			n = 1
		}
	}
	for from != to {
		from.D++
		if from.D == 31 {
			from.M, from.D = from.M+1, 1
		}
		if from.M == 13 {
			from.Y, from.M = from.Y+1, 1
		}
		n++
	}
	return n
}

// P3.1: each two days of a time with a leap February and two turns of the year.
func TestDaysOfEveryTwo(t *testing.T) {
	begin, end := day(2023, 12, 1).Number(), day(2025, 1, 31).Number()
	for i := begin; i <= end; i++ {
		for j := begin; j <= end; j++ {
			from, to := civil.Of(i), civil.Of(j)
			commercial, actual := 0, 0
			if i <= j {
				commercial, actual = walkCommercial(from, to), j-i
			}
			for _, basis := range bases {
				want := actual
				if basis == api.B30360 {
					want = commercial
				}
				if n, of := accrual.Days(basis, from, to); n != want || of != yearOf(basis) {
					t.Fatalf("Days(%d, %v, %v) = %d, %d; want %d", basis, from, to, n, of, want)
				}
			}
		}
	}
}

// P3.2
func TestInterest(t *testing.T) {
	one, two := day(2024, 1, 1), day(2024, 2, 1)
	for _, c := range []struct {
		name                 string
		balance, rate, basis int
		from, to             civil.Date
		want                 int
	}{
		{"a commercial month", 1000000, 500, api.B30360, one, two, 4167},
		{"31 days of 360", 1000000, 500, api.BAct360, one, two, 4306},
		{"31 days of 365", 1000000, 500, api.BAct365, one, two, 4247},
		{"a commercial year", 1000000, 500, api.B30360, one, day(2025, 1, 1), 50000},
		{"366 days of 360", 1000000, 500, api.BAct360, one, day(2025, 1, 1), 50833},
		{"366 days of 365", 1000000, 500, api.BAct365, one, day(2025, 1, 1), 50137},
		{"365 days of 365", 1000000, 500, api.BAct365, day(2023, 1, 1), one, 50000},
		{"a month by its ends", 1000000, 500, api.B30360, day(2024, 7, 31), day(2024, 8, 31), 4167},
		{"the least rate", 1000000, 1, api.B30360, one, two, 8},
		{"the greatest rate", 1000000, api.MaxRate, api.B30360, one, two, 41667},
		{"a rate of 0", 1000000, 0, api.B30360, one, two, 0},
		{"a rate of 0 of Top", top, 0, api.BAct365, first, last, 0},
		{"a balance of 0", 0, 500, api.B30360, one, two, 0},
		{"a balance of 0 for ever", 0, api.MaxRate, api.BAct360, first, last, 0},
		{"a balance of 1", 1, 500, api.B30360, one, two, 0},
		{"no time", 1000000, 500, api.BAct360, one, one, 0},
		{"a time that goes back", 1000000, 500, api.B30360, two, one, 0},
		{"a date that isn't right", 1000000, 500, api.BAct365, day(2024, 1, 32), two, 0},
		{"another one", 1000000, 500, api.BAct365, one, day(2024, 2, 30), 0},
		{"no basis", 1000000, 500, 3, one, two, 0},
		{"no basis below", 1000000, 500, -1, one, two, 0},
		{"no basis of Top", top, api.MaxRate, 7, first, last, 0},
		// Just half way: the even one.
		{"1/2 down", 12, 5000, api.B30360, one, two, 0},
		{"3/2 up", 36, 5000, api.B30360, one, two, 2},
		{"5/2 down", 60, 5000, api.B30360, one, two, 2},
		{"7/2 up", 84, 5000, api.B30360, one, two, 4},
		{"1/2 of a year down", 1, 5000, api.B30360, one, day(2025, 1, 1), 0},
		{"3/2 of a year up", 3, 5000, api.BAct365, day(2023, 1, 1), one, 2},
		{"below 1/2", 11, 5000, api.B30360, one, two, 0},
		{"above 1/2", 13, 5000, api.B30360, one, two, 1},
		{"below 3/2", 35, 5000, api.B30360, one, two, 1},
		{"above 5/2", 61, 5000, api.B30360, one, two, 3},
		// Great ones.
		{"MaxCents", api.MaxCents, api.MaxRate, api.B30360, one, day(2025, 1, 1), api.MaxCents / 2},
		{"Top for half of it", top, api.MaxRate, api.B30360, one, day(2025, 1, 1), top / 2},
		{"Top, just doubled", top, api.MaxRate, api.B30360, one, day(2026, 1, 1), top},
		{"Top, just doubled by 365", top, api.MaxRate, api.BAct365, day(2022, 1, 1), one, top},
		{"Top at a rate of 1 for a day", top, 1, api.BAct360, one, day(2024, 1, 2), 320255973502},
		{"MaxCents for ever", api.MaxCents, api.MaxRate, api.BAct360, first, last, 5577055883767171},
	} {
		if n, ok := accrual.Interest(c.balance, c.rate, c.basis, c.from, c.to); n != c.want || !ok {
			t.Errorf("%s: Interest = %d, %v; want %d", c.name, n, ok, c.want)
		}
	}
}

// P3.2
func TestInterestRefuses(t *testing.T) {
	one, two := day(2024, 1, 1), day(2024, 2, 1)
	for _, c := range []struct {
		name                 string
		balance, rate, basis int
		from, to             civil.Date
	}{
		{"a rate below 0", 1000000, -1, api.B30360, one, two},
		{"a rate above MaxRate", 1000000, api.MaxRate + 1, api.B30360, one, two},
		{"a rate below 0 for no time", 1000000, -1, api.B30360, one, one},
		{"a rate above MaxRate for no time", 1000000, api.MaxRate + 1, api.BAct360, two, one},
		{"a rate above MaxRate of nothing", 0, api.MaxRate + 1, api.BAct365, one, two},
		{"a rate above MaxRate by no basis", 1000000, api.MaxRate + 1, 9, one, two},
		{"a rate that wraps round to 0 with four days", 1000000, 1 << 62, api.BAct360, one, day(2024, 1, 5)},
		{"a rate that wraps round to 4 with four days", 1000000, 1<<62 + 1, api.BAct360, one, day(2024, 1, 5)},
		{"the least rate of an int", 1000000, math.MinInt, api.B30360, one, two},
		{"the greatest rate of an int", 1000000, math.MaxInt, api.B30360, one, two},
		{"a balance below 0", -1, 500, api.B30360, one, two},
		{"a balance above Top", top + 1, 500, api.B30360, one, two},
		{"a balance below 0 at 0", -1, 0, api.B30360, one, two},
		{"a balance above Top at 0", top + 1, 0, api.B30360, one, two},
		{"a balance below 0 for no time", -1, 500, api.BAct360, one, one},
		{"a balance above Top by no basis", top + 1, 500, -1, one, two},
		{"a balance above Top with a wrong date", top + 1, 500, api.BAct365, civil.Date{}, two},
		{"the least balance of an int", math.MinInt, 500, api.B30360, one, two},
		{"the greatest balance of an int", math.MaxInt, 500, api.B30360, one, two},
		{"one day beyond Top", top, api.MaxRate, api.B30360, one, day(2026, 1, 2)},
		{"one day beyond Top by 365", top, api.MaxRate, api.BAct365, day(2022, 1, 1), two},
		{"Top for ever", top, api.MaxRate, api.BAct360, first, last},
	} {
		if n, ok := accrual.Interest(c.balance, c.rate, c.basis, c.from, c.to); n != 0 || ok {
			t.Errorf("%s: Interest = %d, %v", c.name, n, ok)
		}
	}
}

// bigInterest is P3.2's product with numbers that have no end, brought to the
// nearest whole by adding a half and taking back a middle that came to an odd
// one.
func bigInterest(balance, rate, days, of int) (int, bool) {
	if balance < 0 || balance > top || rate < 0 || rate > 5000 {
		return 0, false
	}
	twice := big.NewInt(2)
	for _, n := range []int{balance, rate, days} {
		twice.Mul(twice, big.NewInt(int64(n)))
	}
	per, rest := big.NewInt(int64(10000*of)), new(big.Int)
	twice.Add(twice, per)
	result, rest := new(big.Int).DivMod(twice, per.Lsh(per, 1), rest)
	if rest.Sign() == 0 && result.Bit(0) == 1 {
		result.Sub(result, big.NewInt(1))
	}
	if result.Cmp(big.NewInt(top)) > 0 {
		return 0, false
	}
	return int(result.Int64()), true
}

// P3.2
func TestInterestOfEdges(t *testing.T) {
	dates := []civil.Date{
		{}, first, day(1, 1, 31), day(1900, 2, 28), day(2023, 12, 31), day(2024, 1, 30), day(2024, 1, 31), day(2024, 2, 29),
		day(2024, 2, 30), day(2024, 3, 31), day(2025, 12, 31), day(2026, 1, 1), day(9999, 12, 30), last,
	}
	balances := []int{
		math.MinInt, -1, 0, 1, 2, 3, 11, 12, 13, 36, 60, 720, 1000000, 123456789, api.MaxCents - 1, api.MaxCents,
		1 << 50, top / 2, top - 1, top, top + 1, math.MaxInt,
	}
	rates := []int{math.MinInt, -5000, -1, 0, 1, 2, 25, 365, 500, 2500, 4999, 5000, 5001, 10000, math.MaxInt}
	for _, basis := range append([]int{-1, 3}, bases...) {
		for _, from := range dates {
			for _, to := range dates {
				days, of := accrual.Days(basis, from, to)
				for _, balance := range balances {
					for _, rate := range rates {
						want, wantOk := bigInterest(balance, rate, days, of)
						if n, ok := accrual.Interest(balance, rate, basis, from, to); n != want || ok != wantOk {
							t.Fatalf("Interest(%d, %d, %d, %v, %v) = %d, %v; want %d, %v", balance, rate, basis, from, to, n, ok, want, wantOk)
						}
					}
				}
			}
		}
	}
}

// P3.3
func TestActualDaysAddUp(t *testing.T) {
	dates := []civil.Date{
		first, day(1, 1, 31), day(1, 3, 1), day(100, 2, 28), day(1600, 2, 29), day(1900, 2, 28), day(1900, 3, 1),
		day(2000, 2, 29), day(2023, 2, 28), day(2023, 12, 31), day(2024, 1, 1), day(2024, 1, 30), day(2024, 1, 31),
		day(2024, 2, 29), day(2024, 3, 1), day(2024, 3, 31), day(2024, 4, 30), day(2025, 2, 28), day(9999, 12, 30), last,
	}
	for d := day(2027, 12, 31); d.Before(day(2031, 1, 31)); d = d.Shift(1) {
		dates = append(dates[:len(dates)-2], d, day(9999, 12, 30), last)
	}
	for _, basis := range []int{api.BAct360, api.BAct365} {
		for i, a := range dates {
			for j, b := range dates[i:] {
				for _, c := range dates[i+j:] {
					x, _ := accrual.Days(basis, a, b)
					y, _ := accrual.Days(basis, b, c)
					whole, _ := accrual.Days(basis, a, c)
					if x+y != whole {
						t.Fatalf("basis %d, %v to %v to %v: %d and %d are not %d", basis, a, b, c, x, y, whole)
					}
				}
			}
		}
	}
}
