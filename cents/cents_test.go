package cents_test

import (
	"math"
	"math/big"
	"slices"
	"testing"

	"cascade/cents"
)

const top = cents.Top

// edges are the numbers around which a promise may break.
var edges = []int{
	math.MinInt, math.MinInt + 1, -top - 1, -top, -2, -1,
	0, 1, 2, 3, 4, 5, 7, 10, 99, 10000, 1<<30 - 1, 1 << 30, 1<<30 + 1, 1<<31 + 1, 1 << 32, 1 << 40,
	top/2 - 1, top / 2, top/2 + 1, top/3*2 + 1, top - 2, top - 1, top, top + 1, top + 2,
	1 << 61, 1 << 62, math.MaxInt - 1, math.MaxInt,
}

func TestNamedNumbers(t *testing.T) {
	if cents.Top != 1152921504606846976 {
		t.Error("Top", cents.Top)
	}
	if cents.Down != 0 || cents.Up != 1 || cents.Half != 2 {
		t.Error("ways of rounding", cents.Down, cents.Up, cents.Half)
	}
}

// P1.1
func TestRight(t *testing.T) {
	for _, c := range []struct {
		name string
		l    []int
		want bool
	}{
		{"nil", nil, true},
		{"empty", []int{}, true},
		{"zero", []int{0}, true},
		{"one", []int{1}, true},
		{"Top", []int{top}, true},
		{"several, whatever their sum", []int{top, top, top, 0}, true},
		{"below 0", []int{-1}, false},
		{"above Top", []int{top + 1}, false},
		{"least int", []int{math.MinInt}, false},
		{"greatest int", []int{math.MaxInt}, false},
		{"first wrong", []int{-1, 2, 3}, false},
		{"middle wrong", []int{1, top + 1, 3}, false},
		{"last wrong", []int{1, 2, -3}, false},
	} {
		if got := cents.Right(c.l...); got != c.want {
			t.Errorf("%s: Right(%v) = %v", c.name, c.l, got)
		}
	}
	if !cents.Right() {
		t.Error("Right() of no arguments")
	}
}

// P1.1
func TestSum(t *testing.T) {
	for _, c := range []struct {
		name string
		l    []int
		want int
		ok   bool
	}{
		{"nil", nil, 0, true},
		{"empty", []int{}, 0, true},
		{"zeros", []int{0, 0, 0}, 0, true},
		{"ordinary", []int{1, 2, 3}, 6, true},
		{"one", []int{7}, 7, true},
		{"Top", []int{top}, top, true},
		{"Top and nothing", []int{0, top, 0}, top, true},
		{"just Top", []int{top - 1, 1}, top, true},
		{"two halves", []int{top / 2, top / 2}, top, true},
		{"one past Top", []int{top, 1}, 0, false},
		{"one past Top by halves", []int{top / 2, top/2 + 1}, 0, false},
		{"one alone above Top", []int{top + 1}, 0, false},
		{"below 0", []int{-1}, 0, false},
		{"below 0 that would even out", []int{3, -3}, 0, false},
		{"below 0 that would bring it to Top", []int{top, 1, -1}, 0, false},
		{"below 0 ahead", []int{-1, top, 1}, 0, false},
		{"wraps round to a right one", []int{math.MaxInt, math.MaxInt, 2}, 0, false},
		{"extremes", []int{math.MinInt, math.MaxInt}, 0, false},
		{"sixteen Tops", slices.Repeat([]int{top}, 16), 0, false},
	} {
		if got, ok := cents.Sum(c.l...); got != c.want || ok != c.ok {
			t.Errorf("%s: Sum(%v) = %v, %v", c.name, c.l, got, ok)
		}
	}
	if n, ok := cents.Sum(); n != 0 || !ok {
		t.Error("Sum() of no arguments", n, ok)
	}
}

// bigSum is P1.1 said with numbers that have no end.
func bigSum(l []int) (int, bool) {
	sum := new(big.Int)
	for _, n := range l {
		if n < 0 {
			return 0, false
		}
		sum.Add(sum, big.NewInt(int64(n)))
	}
	if sum.Cmp(big.NewInt(top)) > 0 {
		return 0, false
	}
	return int(sum.Int64()), true
}

// P1.1 and P1.4: every triple of edges comes up here in each of its orders.
func TestSumOfEdgesInEveryOrder(t *testing.T) {
	for _, a := range edges {
		for _, b := range edges {
			for _, c := range edges {
				want, wantOk := bigSum([]int{a, b, c})
				if got, ok := cents.Sum(a, b, c); got != want || ok != wantOk {
					t.Fatalf("Sum(%d, %d, %d) = %d, %v; want %d, %v", a, b, c, got, ok, want, wantOk)
				}
			}
		}
	}
}

// orders hands each order of l to visit.
func orders(l []int, at int, visit func([]int)) {
	if at == len(l) {
		visit(l)
		return
	}
	for i := at; i < len(l); i++ {
		l[at], l[i] = l[i], l[at]
		orders(l, at+1, visit)
		l[at], l[i] = l[i], l[at]
	}
}

// P1.4
func TestSumDoesNotHangOnOrder(t *testing.T) {
	for _, l := range [][]int{
		{1, 20, 300, 4000, 50000},
		{top - 10, 1, 2, 3, 4},
		{top - 9, 1, 2, 3, 4},
		{top, 0, 0, 1, 0},
		{top, top, -top, 1, 2},
		{math.MaxInt, math.MinInt, 1, 5, top},
	} {
		want, wantOk := cents.Sum(l...)
		orders(slices.Clone(l), 0, func(o []int) {
			if got, ok := cents.Sum(o...); got != want || ok != wantOk {
				t.Errorf("Sum(%v) = %d, %v; Sum(%v) = %d, %v", o, got, ok, l, want, wantOk)
			}
		})
	}
}

// P1.2
func TestMulDiv(t *testing.T) {
	for _, c := range []struct {
		n, by, per     int
		down, up, half int
	}{
		{10, 1, 4, 2, 3, 2}, // between 2 and 3: the even one is below
		{14, 1, 4, 3, 4, 4}, // between 3 and 4: the even one is above
		{9, 1, 4, 2, 3, 2},
		{11, 1, 4, 2, 3, 3},
		{12, 1, 4, 3, 3, 3},
		{1, 1, 2, 0, 1, 0},
		{3, 1, 2, 1, 2, 2},
		{5, 1, 2, 2, 3, 2},
		{1, 1, 3, 0, 1, 0},
		{2, 1, 3, 0, 1, 1},
		{7, 1, 7, 1, 1, 1},
		{3, 1, 7, 0, 1, 0}, // an odd divisor has no middle
		{4, 1, 7, 0, 1, 1},
		{0, 0, 1, 0, 0, 0},
		{0, top, top, 0, 0, 0},
		{top, 0, 1, 0, 0, 0},
		{1, 1, top, 0, 1, 0},
		{top / 2, 1, top, 0, 1, 0},
		{top/2 + 1, 1, top, 0, 1, 1},
		{3, top / 2, top, 1, 2, 2},
		{123456789, 250, 10000, 3086419, 3086420, 3086420},
		{top, 1, 1, top, top, top},
		{1, top, 1, top, top, top},
		{top, 2, 2, top, top, top},
		// Products beyond 64 bits.
		{top, top, top, top, top, top},
		{top, top - 1, top, top - 1, top - 1, top - 1},
		{top - 1, top - 1, top, top - 2, top - 1, top - 2},
		{top - 1, top / 2, top, top/2 - 1, top / 2, top / 2},
		{top - 3, top / 2, top, top/2 - 2, top/2 - 1, top/2 - 2},
		{1 << 40, 1 << 40, 1 << 21, 1 << 59, 1 << 59, 1 << 59},
	} {
		for how, want := range []int{c.down, c.up, c.half} {
			if got, ok := cents.MulDiv(c.n, c.by, c.per, how); got != want || !ok {
				t.Errorf("MulDiv(%d, %d, %d, %d) = %d, %v; want %d", c.n, c.by, c.per, how, got, ok, want)
			}
		}
	}
}

// P1.2
func TestMulDivRefuses(t *testing.T) {
	for _, c := range []struct {
		name            string
		n, by, per, how int
	}{
		{"n below 0", -1, 5, 1, cents.Down},
		{"n above Top", top + 1, 0, 1, cents.Down},
		{"n above Top, though the result is right", top + 2, 1, 2, cents.Down},
		{"by below 0", 5, -1, 1, cents.Up},
		{"by above Top", 0, top + 1, 1, cents.Up},
		{"both below 0", -2, -3, 1, cents.Half},
		{"least int", math.MinInt, 1, 1, cents.Down},
		{"greatest int", math.MaxInt, 1, math.MaxInt, cents.Down},
		{"per 0", 5, 5, 0, cents.Down},
		{"per 0 of nothing", 0, 0, 0, cents.Half},
		{"per below 0", 5, 5, -1, cents.Down},
		{"per above Top", 5, 5, top + 1, cents.Down},
		{"per greatest int", 1, 1, math.MaxInt, cents.Up},
		{"no way of rounding: below", 5, 5, 1, cents.Down - 1},
		{"no way of rounding: above", 5, 5, 1, cents.Half + 1},
		{"no way of rounding: least int", 5, 5, 1, math.MinInt},
		{"no way of rounding: greatest int", 5, 5, 1, math.MaxInt},
		{"one past Top", top/3 + 1, 3, 1, cents.Down},
		{"a product of 120 bits", top, top, 1, cents.Down},
		{"a quotient of 65 bits", 1 << 60, 1 << 5, 1, cents.Down},
		{"a quotient of 64 ones", 1<<32 - 1, 1<<32 + 1, 1, cents.Down},
		{"a quotient of 64 ones and 1/2, up", (1<<65 - 1) / 8191, 8191, 2, cents.Up},
		{"a quotient of 64 ones and 1/2, half", (1<<65 - 1) / 8191, 8191, 2, cents.Half},
		{"just above Top, down", top, top, top - 1, cents.Down},
		{"three halves of Top", top, 3, 2, cents.Half},
	} {
		if got, ok := cents.MulDiv(c.n, c.by, c.per, c.how); got != 0 || ok {
			t.Errorf("%s: MulDiv = %d, %v", c.name, got, ok)
		}
	}
}

// P1.2: rounding alone decides whether the result is above Top.
func TestMulDivRoundsAcrossTop(t *testing.T) {
	for _, c := range []struct {
		name            string
		n, by, per, how int
		want            int
		ok              bool
	}{
		{"Top and 1/2, down", (2*top + 1) / 3, 3, 2, cents.Down, top, true},
		{"Top and 1/2, up", (2*top + 1) / 3, 3, 2, cents.Up, 0, false},
		{"Top and 1/2, half", (2*top + 1) / 3, 3, 2, cents.Half, top, true},
		{"Top and 1/6, down", (6*top + 1) / 7, 7, 6, cents.Down, top, true},
		{"Top and 1/6, up", (6*top + 1) / 7, 7, 6, cents.Up, 0, false},
		{"Top and 1/6, half", (6*top + 1) / 7, 7, 6, cents.Half, top, true},
		{"Top and 3/4, down", (4*top + 3) / 7, 7, 4, cents.Down, top, true},
		{"Top and 3/4, up", (4*top + 3) / 7, 7, 4, cents.Up, 0, false},
		{"Top and 3/4, half", (4*top + 3) / 7, 7, 4, cents.Half, 0, false},
		{"Top less 1/16, down", (16*top - 1) / 17, 17, 16, cents.Down, top - 1, true},
		{"Top less 1/16, up", (16*top - 1) / 17, 17, 16, cents.Up, top, true},
		{"Top less 1/16, half", (16*top - 1) / 17, 17, 16, cents.Half, top, true},
	} {
		if got, ok := cents.MulDiv(c.n, c.by, c.per, c.how); got != c.want || ok != c.ok {
			t.Errorf("%s: MulDiv = %d, %v; want %d, %v", c.name, got, ok, c.want, c.ok)
		}
	}
}

// bigMulDiv is P1.2 said with numbers that have no end. Half is reckoned in
// another way than the program does it, lest both have one fault: a half is
// added and the sum brought down, and a middle that came to an odd one is
// taken back by one.
func bigMulDiv(n, by, per, how int) (int, bool) {
	if n < 0 || n > top || by < 0 || by > top || per < 1 || per > top {
		return 0, false
	}
	product := new(big.Int).Mul(big.NewInt(int64(n)), big.NewInt(int64(by)))
	divisor := big.NewInt(int64(per))
	result := new(big.Int)
	switch how {
	case cents.Down:
		result.Div(product, divisor)
	case cents.Up:
		result.Add(product, divisor)
		result.Sub(result, big.NewInt(1))
		result.Div(result, divisor)
	case cents.Half:
		twice := new(big.Int).Lsh(product, 1)
		twice.Add(twice, divisor)
		rest := new(big.Int)
		result.DivMod(twice, new(big.Int).Lsh(divisor, 1), rest)
		if rest.Sign() == 0 && result.Bit(0) == 1 {
			result.Sub(result, big.NewInt(1))
		}
	default:
		return 0, false
	}
	if result.Cmp(big.NewInt(top)) > 0 {
		return 0, false
	}
	return int(result.Int64()), true
}

// P1.2
func TestMulDivOfEdges(t *testing.T) {
	for _, n := range edges {
		for _, by := range edges {
			for _, per := range edges {
				for how := cents.Down - 1; how <= cents.Half+1; how++ {
					want, wantOk := bigMulDiv(n, by, per, how)
					if got, ok := cents.MulDiv(n, by, per, how); got != want || ok != wantOk {
						t.Fatalf("MulDiv(%d, %d, %d, %d) = %d, %v; want %d, %v", n, by, per, how, got, ok, want, wantOk)
					}
				}
			}
		}
	}
}

// P1.2: every small case.
func TestMulDivOfSmallNumbers(t *testing.T) {
	for n := range 40 {
		for by := range 12 {
			for per := 1; per < 24; per++ {
				for how := cents.Down; how <= cents.Half; how++ {
					want, _ := bigMulDiv(n, by, per, how)
					if got, ok := cents.MulDiv(n, by, per, how); got != want || !ok {
						t.Fatalf("MulDiv(%d, %d, %d, %d) = %d, %v; want %d", n, by, per, how, got, ok, want)
					}
				}
			}
		}
	}
}

// P1.3
func TestLeast(t *testing.T) {
	for _, c := range []struct {
		name string
		l    []int
		want int
	}{
		{"nil", nil, top},
		{"empty", []int{}, top},
		{"last", []int{5, 3}, 3},
		{"first", []int{3, 5}, 3},
		{"middle", []int{9, 0, 4}, 0},
		{"alike", []int{6, 6, 6}, 6},
		{"Top alone", []int{top}, top},
		{"above Top alone", []int{top + 1}, top + 1},
		{"all above Top", []int{math.MaxInt, top + 2, top + 5}, top + 2},
		{"below 0", []int{0, -7, 7}, -7},
		{"extremes", []int{math.MaxInt, math.MinInt, 0}, math.MinInt},
	} {
		if got := cents.Least(c.l...); got != c.want {
			t.Errorf("%s: Least(%v) = %d", c.name, c.l, got)
		}
	}
	if n := cents.Least(); n != top {
		t.Error("Least() of no arguments", n)
	}
}

// R2 and R5: lists that are handed in stay as they were, and what lies behind
// their length is neither read nor written.
func TestListsStayAsTheyWere(t *testing.T) {
	room := []int{4, 2, 8, -1, -1}
	l := room[:3]
	if !cents.Right(l...) {
		t.Error("Right reads behind the length")
	}
	if n, ok := cents.Sum(l...); n != 14 || !ok {
		t.Error("Sum reads behind the length", n, ok)
	}
	if n := cents.Least(l...); n != 2 {
		t.Error("Least reads behind the length", n)
	}
	if !slices.Equal(room, []int{4, 2, 8, -1, -1}) {
		t.Error("a list was changed", room)
	}
}
