package share_test

import (
	"math"
	"math/big"
	"slices"
	"testing"

	"cascade/cents"
	"cascade/share"
)

const top = cents.Top

// edges are the numbers around which a promise may break.
var edges = []int{
	math.MinInt, math.MinInt + 1, math.MinInt / 2, -top - 1, -top, -2, -1,
	0, 1, 2, 3, 7, 1<<32 - 1, 1 << 32, 1<<32 + 1, top/3*2 + 1,
	top/2 - 1, top / 2, top/2 + 1, top - 2, top - 1, top, top + 1,
	1 << 62, math.MaxInt/2 + 1, math.MaxInt - 1, math.MaxInt,
}

// lists hands each list of length numbers out of from to visit.
func lists(length int, from []int, visit func([]int)) {
	l := make([]int, length)
	var fill func(at int)
	fill = func(at int) {
		if at == length {
			visit(l)
			return
		}
		for _, n := range from {
			l[at] = n
			fill(at + 1)
		}
	}
	fill(0)
}

// bigTotal adds l up with numbers that have no end.
func bigTotal(l []int) *big.Int {
	total := new(big.Int)
	for _, n := range l {
		total.Add(total, big.NewInt(int64(n)))
	}
	return total
}

// P4.1
func TestInOrder(t *testing.T) {
	for _, c := range []struct {
		name         string
		n            int
		claims, want []int
	}{
		{"the chapter's run", 10, []int{4, 7, 3}, []int{4, 6, 0}},
		{"no claim, nil", 10, nil, nil},
		{"no claim, empty", 10, []int{}, nil},
		{"one claim, less", 3, []int{4}, []int{3}},
		{"one claim, just so", 4, []int{4}, []int{4}},
		{"one claim, more", 5, []int{4}, []int{4}},
		{"n of 0", 0, []int{4, 7, 3}, []int{0, 0, 0}},
		{"n of 1", 1, []int{4, 7, 3}, []int{1, 0, 0}},
		{"n of the first claim", 4, []int{4, 7, 3}, []int{4, 0, 0}},
		{"one cent behind the first claim", 5, []int{4, 7, 3}, []int{4, 1, 0}},
		{"n of two claims", 11, []int{4, 7, 3}, []int{4, 7, 0}},
		{"n one cent below the sum", 13, []int{4, 7, 3}, []int{4, 7, 2}},
		{"n of the sum", 14, []int{4, 7, 3}, []int{4, 7, 3}},
		{"n one cent above the sum", 15, []int{4, 7, 3}, []int{4, 7, 3}},
		{"claims of 0 among others", 6, []int{0, 4, 0, 7, 0}, []int{0, 4, 0, 2, 0}},
		{"claims of 0 alone", 6, []int{0, 0}, []int{0, 0}},
		{"the greater claim isn't first", 5, []int{1, 9, 2}, []int{1, 4, 0}},
		{"claims below 0 are as 0", 5, []int{-3, 2, -1, 9}, []int{0, 2, 0, 3}},
		{"claims below 0 alone", 5, []int{-3, -2}, []int{0, 0}},
		{"n below 0 is as 0", -5, []int{4, 1}, []int{0, 0}},
		{"n and a claim below 0", -5, []int{-9, -5, 1}, []int{0, 0, 0}},
		{"a sum of Top", top, []int{top - 1, 1}, []int{top - 1, 1}},
		{"claims above Top", math.MaxInt, []int{top + 1, top + 2}, []int{top + 1, top + 2}},
		{"the greatest int", math.MaxInt, []int{math.MaxInt, 5}, []int{math.MaxInt, 0}},
		{"one cent for the second", math.MaxInt, []int{math.MaxInt - 1, 5}, []int{math.MaxInt - 1, 1}},
		{"claims whose sum is no int", math.MaxInt, []int{1, math.MaxInt, math.MaxInt}, []int{1, math.MaxInt - 1, 0}},
		{"the least int as a claim", 7, []int{math.MinInt, 7}, []int{0, 7}},
		{"the least int as n", math.MinInt, []int{math.MinInt, 7, math.MaxInt}, []int{0, 0, 0}},
	} {
		if got := share.InOrder(c.n, c.claims...); !slices.Equal(got, c.want) {
			t.Errorf("%s: InOrder(%d, %v) = %v; want %v", c.name, c.n, c.claims, got, c.want)
		}
	}
	if got := share.InOrder(5); len(got) != 0 {
		t.Error("InOrder without claims", got)
	}
}

// inOrderBySums is P4.1 by sums from the first claim on: a claim has what n
// reaches with it, less what n reaches without it.
func inOrderBySums(n int, claims []int) []int {
	shares, ahead := make([]int, len(claims)), new(big.Int)
	reached := func() *big.Int {
		if n < 0 {
			return new(big.Int)
		}
		if room := big.NewInt(int64(n)); room.Cmp(ahead) < 0 {
			return room
		}
		return new(big.Int).Set(ahead)
	}
	for i, claim := range claims {
		without := reached()
		if claim > 0 {
			ahead.Add(ahead, big.NewInt(int64(claim)))
		}
		shares[i] = int(new(big.Int).Sub(reached(), without).Int64())
	}
	return shares
}

// P4.1 and P4.4
func TestInOrderOfEdges(t *testing.T) {
	for _, n := range edges {
		lists(2, edges, func(claims []int) {
			checkInOrder(t, n, claims)
		})
	}
	for n := -1; n <= 10; n++ {
		lists(4, []int{-1, 0, 1, 2, 3}, func(claims []int) {
			checkInOrder(t, n, claims)
		})
	}
}

func checkInOrder(t *testing.T, n int, claims []int) {
	t.Helper()
	got := share.InOrder(n, claims...)
	if want := inOrderBySums(n, claims); !slices.Equal(got, want) {
		t.Fatalf("InOrder(%d, %v) = %v; want %v", n, claims, got, want)
	}
	positive := make([]int, len(claims))
	for i, claim := range claims {
		positive[i] = max(claim, 0)
		if got[i] < 0 || got[i] > positive[i] {
			t.Fatalf("InOrder(%d, %v) = %v: %d is past its claim", n, claims, got, got[i])
		}
	}
	want := bigTotal(positive)
	if room := big.NewInt(int64(max(n, 0))); room.Cmp(want) < 0 {
		want = room
	}
	if bigTotal(got).Cmp(want) != 0 {
		t.Fatalf("InOrder(%d, %v) = %v: in all not %v", n, claims, got, want)
	}
}

// P4.2
func TestPro(t *testing.T) {
	for _, c := range []struct {
		name         string
		n            int
		claims, want []int
	}{
		{"the chapter's first run", 10, []int{1, 1, 1}, []int{1, 1, 1}},
		{"the chapter's second run", 2, []int{1, 1, 1}, []int{1, 1, 0}},
		{"the chapter's third run", 100, []int{3, 6}, []int{3, 6}},
		{"no claim, nil", 5, nil, nil},
		{"no claim, empty", 5, []int{}, nil},
		{"no claim and nothing", 0, nil, nil},
		{"one claim, nothing", 0, []int{4}, []int{0}},
		{"one claim, less", 3, []int{4}, []int{3}},
		{"one claim, just so", 4, []int{4}, []int{4}},
		{"one claim, more", 5, []int{4}, []int{4}},
		{"one claim of 0", 5, []int{0}, []int{0}},
		{"claims of 0 alone", 5, []int{0, 0}, []int{0, 0}},
		{"n of 0", 0, []int{3, 6}, []int{0, 0}},
		{"n of 0 for claims of 0", 0, []int{0, 0}, []int{0, 0}},
		{"n one cent below the sum", 8, []int{3, 6}, []int{3, 5}},
		{"n of the sum", 9, []int{3, 6}, []int{3, 6}},
		{"n one cent above the sum", 10, []int{3, 6}, []int{3, 6}},
		{"n of the greatest int", math.MaxInt, []int{5, 6}, []int{5, 6}},
		{"parts that lose nothing", 6, []int{3, 6}, []int{2, 4}},
		{"the one that lost the most isn't first", 1, []int{3, 6}, []int{0, 1}},
		{"the greatest claim lost the least", 7, []int{1, 1, 8}, []int{1, 1, 5}},
		{"the cent goes by the loss and not by the claim", 6, []int{7, 3}, []int{4, 2}},
		{"the same lost by unlike claims", 5, []int{1, 3, 6}, []int{1, 1, 3}},
		{"the same lost by unlike claims, the greater first", 5, []int{3, 1, 6}, []int{2, 0, 3}},
		{"the same lost: the first", 1, []int{5, 5}, []int{1, 0}},
		{"the same lost by all: the first two", 8, []int{7, 7, 7}, []int{3, 3, 2}},
		{"three lost the same, one less than they", 3, []int{1, 1, 2, 1}, []int{1, 1, 1, 0}},
		{"the same lost behind one that lost nothing", 5, []int{4, 1, 1, 4}, []int{2, 1, 0, 2}},
		{"as many cents left as claims but one", 3, []int{5, 5, 5, 5}, []int{1, 1, 1, 0}},
		{"as many cents left as claims but one, the least claim first", 3, []int{1, 2, 2, 2}, []int{0, 1, 1, 1}},
		{"claims of 0 among others", 10, []int{0, 30, 0, 30}, []int{0, 5, 0, 5}},
		{"claims of 0 among others, a cent left", 11, []int{0, 30, 0, 30}, []int{0, 6, 0, 5}},
		{"claims of 0 among others in full", 60, []int{0, 30, 0, 30, 0}, []int{0, 30, 0, 30, 0}},
		{"as many cents left as claims above 0 but one", 2, []int{0, 1, 0, 1, 1}, []int{0, 1, 0, 1, 0}},
		{"n below 0 is as 0", -3, []int{3, 6}, []int{0, 0}},
		{"the least int as n", math.MinInt, []int{3, 6}, []int{0, 0}},
		{"a sum of Top in full", top, []int{top - 1, 1}, []int{top - 1, 1}},
		{"a sum of Top in one", top - 1, []int{top}, []int{top - 1}},
		{"a sum of Top, one cent less", top - 1, []int{top - 1, 1}, []int{top - 2, 1}},
		{"a sum of Top, one cent more", top + 1, []int{top / 2, top / 2}, []int{top / 2, top / 2}},
		{"a sum of Top, a few cents", 3, []int{top / 2, top / 2}, []int{2, 1}},
		{"a sum of Top, a cent past the middle", top/2 + 1, []int{top / 2, top / 2}, []int{top/4 + 1, top / 4}},
	} {
		if got := share.Pro(c.n, c.claims...); !slices.Equal(got, c.want) {
			t.Errorf("%s: Pro(%d, %v) = %v; want %v", c.name, c.n, c.claims, got, c.want)
		}
	}
	if got := share.Pro(5); len(got) != 0 {
		t.Error("Pro without claims", got)
	}
}

// P4.2 and the words ahead of it: claims that are wrong have nothing, all of
// them, whatever n is.
func TestProGivesNothing(t *testing.T) {
	for _, claims := range [][]int{
		{-1}, {-1, 6}, {6, -1}, {3, -1, 6}, {-3, 3}, {9, 0, -9}, {math.MinInt}, {math.MinInt, math.MaxInt, 1},
		{top + 1}, {top, 1}, {1, top}, {top / 2, top/2 + 1}, {top, 1, -1}, {math.MaxInt}, {math.MaxInt, math.MaxInt, 2},
		{1 << 62, 1 << 62, 1 << 62, 1 << 62}, slices.Repeat([]int{top}, 16),
	} {
		for _, n := range edges {
			if got := share.Pro(n, claims...); !slices.Equal(got, make([]int, len(claims))) {
				t.Errorf("Pro(%d, %v) = %v", n, claims, got)
			}
		}
	}
}

// proByPicks is P4.2 with numbers that have no end; each cent that is left is
// looked for anew.
func proByPicks(n int, claims []int) []int {
	shares := make([]int, len(claims))
	if sum, ok := cents.Sum(claims...); !ok || n <= 0 || sum == 0 {
		return shares
	}
	sum, amount := bigTotal(claims), big.NewInt(int64(n))
	if amount.Cmp(sum) >= 0 {
		return claims
	}
	lost, left := make([]*big.Int, len(claims)), n
	for i, claim := range claims {
		product := new(big.Int).Mul(amount, big.NewInt(int64(claim)))
		part, rest := product.DivMod(product, sum, new(big.Int))
		shares[i], lost[i] = int(part.Int64()), rest
		left -= shares[i]
	}
	for range left {
		most := 0
		for i := range lost {
			if lost[i].Cmp(lost[most]) > 0 {
				most = i
			}
		}
		shares[most]++
		lost[most] = big.NewInt(-1)
	}
	return shares
}

func checkPro(t *testing.T, n int, claims []int) {
	t.Helper()
	got := share.Pro(n, claims...)
	if want := proByPicks(n, claims); !slices.Equal(got, want) {
		t.Fatalf("Pro(%d, %v) = %v; want %v", n, claims, got, want)
	}
	if sum, ok := cents.Sum(claims...); ok {
		checkShares(t, n, sum, claims, got)
	}
}

// checkShares is P4.4 of claims whose sum is right.
func checkShares(t *testing.T, n, sum int, claims, got []int) {
	t.Helper()
	given := min(max(n, 0), sum)
	if total, ok := cents.Sum(got...); !ok || total != given {
		t.Fatalf("Pro(%d, %v) = %v: in all not %d", n, claims, got, given)
	}
	for i, claim := range claims {
		if got[i] < 0 || got[i] > claim {
			t.Fatalf("Pro(%d, %v) = %v: %d is past its claim", n, claims, got, got[i])
		}
		// A share less its exact part, times the sum.
		off := new(big.Int).Mul(big.NewInt(int64(got[i])), big.NewInt(int64(sum)))
		off.Sub(off, new(big.Int).Mul(big.NewInt(int64(given)), big.NewInt(int64(claim))))
		if sum > 0 && off.CmpAbs(big.NewInt(int64(sum))) >= 0 {
			t.Fatalf("Pro(%d, %v) = %v: %d is a cent off or more", n, claims, got, got[i])
		}
	}
}

// P4.2 and P4.4: each n that tells anything, of each four small claims.
func TestProOfSmallClaims(t *testing.T) {
	for length := range 5 {
		lists(length, []int{0, 1, 2, 3, 5, 8}, func(claims []int) {
			sum, _ := cents.Sum(claims...)
			for n := -1; n <= sum+1; n++ {
				checkPro(t, n, claims)
			}
		})
	}
	for n := range 14 {
		lists(3, []int{-1, 0, 4, 7}, func(claims []int) {
			checkPro(t, n, claims)
		})
	}
}

// P4.2 and P4.4: products beyond 64 bits, and sums about Top.
func TestProOfEdges(t *testing.T) {
	for _, n := range edges {
		lists(2, edges, func(claims []int) {
			checkPro(t, n, claims)
		})
	}
	great := []int{0, 1, 3, 1<<32 + 1, 1<<40 - 1, 1 << 50, top/7 + 3, top / 5, top/3 - 1, top / 3, top/3 + 1}
	for _, n := range []int{1, 2, 1<<32 + 1, 1 << 50, top/9*2 + 1, top/2 - 1, top/3*2 + 1, top - 2, top - 1, top} {
		lists(4, great, func(claims []int) {
			checkPro(t, n, claims)
		})
	}
	for _, claims := range [][]int{
		{top / 2, top / 2}, {top - 1, 1}, {1, top - 1}, {top/3 + 1, top / 3, top / 3}, {top / 4, top / 4, 0, top / 4, top / 4},
		{1, 2, 3, top - 6}, {top/2 + 1, top/2 - 2, 1}, {top},
	} {
		for off := range 100 {
			checkPro(t, off, claims)
			checkPro(t, top/3+off, claims)
			checkPro(t, top-off, claims)
		}
	}
}

// P4.2: as many cents left as claims but one, of many claims; of those that
// lost the same the first have them.
func TestProOfManyClaims(t *testing.T) {
	const count = 100000
	want := slices.Repeat([]int{8}, count)
	want[count-1] = 7
	if got := share.Pro(8*count-1, slices.Repeat([]int{9}, count)...); !slices.Equal(got, want) {
		t.Error("like claims")
	}
	// Two kinds by turns: of 3 and of 4 a half is 1 and 1/2, and 2.
	claims := slices.Repeat([]int{3, 4}, count/2)
	want = slices.Concat(slices.Repeat([]int{2, 2}, count/4), slices.Repeat([]int{1, 2}, count/4))
	if got := share.Pro(count/2*7/2, claims...); !slices.Equal(got, want) {
		t.Error("claims of two kinds")
	}
}

// P4.3
func TestLeft(t *testing.T) {
	for _, c := range []struct {
		name string
		n    int
		paid []int
		want int
	}{
		{"nothing paid, nil", 10, nil, 10},
		{"nothing paid, empty", 10, []int{}, 10},
		{"noughts paid", 10, []int{0, 0}, 10},
		{"one paid", 10, []int{4}, 6},
		{"several paid", 10, []int{4, 3, 2}, 1},
		{"just all", 10, []int{4, 6}, 0},
		{"one cent too much", 10, []int{4, 7}, 0},
		{"far too much", 10, []int{400, 700}, 0},
		{"n of 0", 0, nil, 0},
		{"n of 0, a cent paid", 0, []int{1}, 0},
		{"n below 0", -1, nil, 0},
		{"n below 0, something paid", -5, []int{3}, 0},
		{"n below 0 is as 0 where it is paid back", -5, []int{-7}, 7},
		{"the least n is as 0 where a cent is paid back", math.MinInt, []int{-1}, 1},
		{"paid below 0", 10, []int{-4}, 14},
		{"paid below 0 among others", 10, []int{4, -4, 3}, 7},
		{"below 0 on the way alone", 5, []int{10, -8}, 3},
		{"below 0 on the way alone, at the ends", 5, []int{math.MaxInt, math.MaxInt, -math.MaxInt, -math.MaxInt}, 5},
		{"above an int on the way alone", math.MaxInt, []int{-1, 1}, math.MaxInt},
		{"above 64 bits on the way alone", 3, []int{math.MinInt, math.MinInt, math.MaxInt, math.MaxInt, 2}, 3},
		{"all of the greatest int", math.MaxInt, []int{math.MaxInt}, 0},
		{"a cent left of the greatest int", math.MaxInt, []int{math.MaxInt - 1}, 1},
		{"a cent off the greatest int", math.MaxInt, []int{1}, math.MaxInt - 1},
		{"the greatest int untouched", math.MaxInt, nil, math.MaxInt},
		{"the greatest int, just reached", math.MaxInt - 1, []int{-1}, math.MaxInt},
		{"the greatest int from 0", 0, []int{-math.MaxInt}, math.MaxInt},
		{"the greatest int by the least", 0, []int{math.MinInt, 1}, math.MaxInt},
		{"no int by one cent", math.MaxInt, []int{-1}, 0},
		{"no int from 0", 0, []int{math.MinInt}, 0},
		{"no int, an n below 0 being as 0", -1, []int{math.MinInt}, 0},
		{"no int that wraps round to n", 5, []int{math.MinInt, math.MinInt}, 0},
		{"below 0 that wraps round to n", 5, []int{math.MaxInt, math.MaxInt, 2}, 0},
		{"below 0 that wraps round above 0", 10, []int{math.MaxInt, math.MaxInt}, 0},
		{"below the least int", 0, []int{math.MaxInt, 2}, 0},
		{"paid above Top", math.MaxInt, []int{top + 1}, math.MaxInt - top - 1},
	} {
		if got := share.Left(c.n, c.paid...); got != c.want {
			t.Errorf("%s: Left(%d, %v) = %d; want %d", c.name, c.n, c.paid, got, c.want)
		}
	}
	if got := share.Left(7); got != 7 {
		t.Error("Left without any paid", got)
	}
}

// bigLeft is P4.3 with numbers that have no end.
func bigLeft(n int, paid []int) int {
	rest := big.NewInt(int64(max(n, 0)))
	rest.Sub(rest, bigTotal(paid))
	if rest.Sign() < 0 || !rest.IsInt64() {
		return 0
	}
	return int(rest.Int64())
}

// P4.3
func TestLeftOfEdges(t *testing.T) {
	for _, n := range edges {
		for length := range 4 {
			lists(length, edges, func(paid []int) {
				if got, want := share.Left(n, paid...), bigLeft(n, paid); got != want {
					t.Fatalf("Left(%d, %v) = %d; want %d", n, paid, got, want)
				}
			})
		}
	}
}

// P4.3: many numbers at an int's ends come out even.
func TestLeftOfMany(t *testing.T) {
	const count = 100000
	out, back := slices.Repeat([]int{math.MaxInt}, count), slices.Repeat([]int{-math.MaxInt}, count)
	for _, c := range []struct {
		paid []int
		want int
	}{
		{slices.Concat(out, back), 7}, {slices.Concat(back, out), 7},
		{slices.Concat(out, back, []int{8}), 0}, {slices.Concat(back, out, []int{6}), 1},
		{slices.Concat(out, back[1:]), 0}, {slices.Concat(back, out[1:]), 0}, {out, 0}, {back, 0},
	} {
		if got := share.Left(7, c.paid...); got != c.want {
			t.Errorf("Left of %d numbers = %d; want %d", len(c.paid), got, c.want)
		}
	}
}

// P4.1 with P4.3: what InOrder doesn't give is left.
func TestLeftOfWhatWasGiven(t *testing.T) {
	for _, n := range []int{0, 1, 10, 14, 15, 99, math.MaxInt} {
		claims := []int{4, 7, 3}
		if got, want := share.Left(n, share.InOrder(n, claims...)...), share.Left(n, claims...); got != want {
			t.Errorf("of %d InOrder leaves %d; want %d", n, got, want)
		}
		if got, want := share.Left(n, share.Pro(n, claims...)...), share.Left(n, claims...); got != want {
			t.Errorf("of %d Pro leaves %d; want %d", n, got, want)
		}
	}
}

// What is told is the caller's own, its spare room too, and what was handed in
// stays as it was, its spare room too.
func TestAnswersAreNewMemory(t *testing.T) {
	calls := map[string]func(int, ...int) []int{"InOrder": share.InOrder, "Pro": share.Pro}
	for name, call := range calls {
		for _, start := range [][]int{{}, {9}, {3, 6, 0, 5}, {5, 5, 5}, {-1, 6}, {top, 1}} {
			for _, n := range []int{-1, 0, 1, 7, 13, 14, 99} {
				whole := append(slices.Clone(start), 91, 92, 93)
				before := slices.Clone(whole)
				claims := whole[:len(start)]
				first := call(n, claims...)
				again := slices.Clone(first)
				second := call(n, claims...)
				spoil(first)
				if !slices.Equal(whole, before) {
					t.Errorf("%s(%d, %v) shares its answer's memory, or writes: %v", name, n, start, whole)
				}
				if !slices.Equal(second, again) {
					t.Errorf("%s(%d, %v): two answers share memory", name, n, start)
				}
				third := call(n, claims...)
				spoil(claims)
				if !slices.Equal(third, again) {
					t.Errorf("%s(%d, %v) hangs on its claims still", name, n, start)
				}
			}
		}
	}
}

// spoil turns all that a list has, its spare room too.
func spoil(l []int) {
	l = l[:cap(l)]
	for i := range l {
		l[i] = -77
	}
}

// P4.3's call changes nothing either.
func TestLeftKeepsWhatWasPaid(t *testing.T) {
	whole := []int{4, 3, -2, 91, 92}
	if got := share.Left(10, whole[:3]...); got != 5 {
		t.Error("Left", got)
	}
	if !slices.Equal(whole, []int{4, 3, -2, 91, 92}) {
		t.Error("Left writes", whole)
	}
}
