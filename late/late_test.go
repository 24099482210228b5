package late_test

import (
	"math"
	"math/big"
	"slices"
	"testing"

	"cascade/api"
	"cascade/late"
	"cascade/pool"
)

const (
	maxCents = api.MaxCents
	maxLate  = api.MaxLate
	maxLoans = api.MaxLoans
	maxTest  = api.MaxTest
	whole    = api.Whole
)

// places are the bucket of each lateness from 0 to MaxLate, written out.
var places = [maxLate + 1]int{0, 1, 1, 2, 2, 2, 3, 3, 3, 3, 3, 3, 3}

// place is the bucket of any lateness.
func place(months int) int {
	return places[min(max(months, 0), maxLate)]
}

// loan is one with this balance, that many months late.
func loan(balance, months int) pool.Loan {
	return pool.Loan{Loan: api.Loan{Id: 1, Balance: balance}, Late: months}
}

// shows checks all that buckets tell.
func shows(t *testing.T, name string, b, want late.Buckets) {
	t.Helper()
	if b != want {
		t.Errorf("%s: %v; want %v", name, b, want)
	}
	from := [...]int{
		want[0] + want[1] + want[2] + want[3], want[1] + want[2] + want[3], want[2] + want[3], want[3], 0,
	}
	if got := b.All(); got != from[0] {
		t.Errorf("%s: All of %v = %d; want %d", name, b, got, from[0])
	}
	for _, k := range []int{
		math.MinInt, math.MinInt + 1, -1 << 32, -9, -4, -3, -2, -1, 0, 1, 2, 3,
		4, 5, 6, 7, 8, 9, 1 << 31, 1 << 32, 1<<32 + 1, 1 << 62, math.MaxInt - 1, math.MaxInt,
	} {
		if got := b.From(k); got != from[min(max(k, 0), 4)] {
			t.Errorf("%s: From(%d) of %v = %d; want %d", name, k, b, got, from[min(max(k, 0), 4)])
		}
	}
	if b != want {
		t.Errorf("%s: turned to %v", name, b)
	}
}

// The chapter's run.
func TestRun(t *testing.T) {
	if !late.AtLeast(105, 100, 10500) || late.AtLeast(104, 100, 10500) || !late.AtMost(0, 0, 5) {
		t.Error("ratios")
	}
	shows(t, "run", late.Of(loan(5, 1), loan(7, 6)), late.Buckets{0, 5, 0, 7})
}

// P10.1: of no loan there is nothing.
func TestOfNoLoan(t *testing.T) {
	shows(t, "of no arguments", late.Of(), late.Buckets{})
	shows(t, "nil", late.Of([]pool.Loan(nil)...), late.Buckets{})
	shows(t, "empty", late.Of([]pool.Loan{}...), late.Buckets{})
	shows(t, "of a pool without loans", late.Of(pool.New().Loans()...), late.Buckets{})
	shows(t, "of a loan without a balance", late.Of(loan(0, 4)), late.Buckets{})
}

// P10.1: each lateness by itself: the last month of each bucket, the first of
// the next, fewer than 0, more than MaxLate.
func TestEachLateness(t *testing.T) {
	for _, balance := range []int{1, 2, 100, maxCents - 1, maxCents} {
		for months := -20; months <= 2*maxLate; months++ {
			var want late.Buckets
			want[place(months)] = balance
			shows(t, "one loan", late.Of(loan(balance, months)), want)
		}
		for _, months := range []int{math.MinInt, math.MinInt + 1, -1 << 32, -1<<32 + 4} {
			shows(t, "far below", late.Of(loan(balance, months)), late.Buckets{balance})
		}
		for _, months := range []int{1 << 31, 1 << 32, 1<<32 + 1, math.MaxInt - 1, math.MaxInt} {
			shows(t, "far above", late.Of(loan(balance, months)), late.Buckets{3: balance})
		}
	}
	for _, c := range []struct{ last, first, behind int }{{0, 1, 1}, {2, 3, 2}, {5, 6, 3}} {
		var want late.Buckets
		want[c.behind-1], want[c.behind] = 4, 9
		shows(t, "last month and first", late.Of(loan(4, c.last), loan(9, c.first)), want)
		shows(t, "first month and last", late.Of(loan(9, c.first), loan(4, c.last)), want)
	}
}

// P10.1: one loan of each lateness, and each choice of them, each in both
// orders. The balances are powers of 2: no two choices come to the same.
func TestOneOfEachLateness(t *testing.T) {
	for choice := range 1 << (maxLate + 1) {
		var l []pool.Loan
		var want late.Buckets
		for months := range maxLate + 1 {
			if choice>>months&1 == 1 {
				l = append(l, loan(1<<months, months))
				want[places[months]] += 1 << months
			}
		}
		if got := late.Of(l...); got != want {
			t.Fatalf("%v: %v; want %v", l, got, want)
		}
		slices.Reverse(l)
		if got := late.Of(l...); got != want {
			t.Fatalf("%v: %v; want %v", l, got, want)
		}
		if choice%97 == 0 || choice == 1<<(maxLate+1)-1 {
			shows(t, "choice", late.Of(l...), want)
		}
	}
	all := late.Buckets{1, 2 + 4, 8 + 16 + 32, 64 + 128 + 256 + 512 + 1024 + 2048 + 4096}
	var l []pool.Loan
	for months := range maxLate + 1 {
		l = append(l, loan(1<<months, months))
	}
	shows(t, "one of each", late.Of(l...), all)
	shows(t, "and one of fewer than 0", late.Of(append(l, loan(1<<20, -1))...), late.Buckets{1 + 1<<20, all[1], all[2], all[3]})
}

// P10.1: loans that share a bucket, by the same lateness and by others.
func TestLoansThatShareABucket(t *testing.T) {
	for months := -2; months <= maxLate+2; months++ {
		for other := -2; other <= maxLate+2; other++ {
			var want late.Buckets
			want[place(months)] += 3
			want[place(other)] += 40
			want[place(months)] += 500
			shows(t, "three loans", late.Of(loan(3, months), loan(40, other), loan(500, months)), want)
		}
	}
	l := make([]pool.Loan, maxLoans)
	for months := range maxLate + 1 {
		for i := range l {
			l[i] = loan(maxCents, months)
		}
		var want late.Buckets
		want[places[months]] = 1 << 46
		shows(t, "the most of all", late.Of(l...), want)
	}
}

// P10.1: as many loans as there are, more than a pool may have among them.
func TestCountsOfLoans(t *testing.T) {
	for _, count := range []int{1, 2, 13, maxLoans - 1, maxLoans, maxLoans + 1, 1000, 100000} {
		var l []pool.Loan
		var want late.Buckets
		for i := range count {
			l = append(l, loan(i+1, i%(maxLate+1)))
			want[places[i%(maxLate+1)]] += i + 1
		}
		shows(t, "many loans", late.Of(l...), want)
	}
}

// P10.1: the balance alone is sorted, and the lateness alone sorts: Id, Lost
// and Over play no part.
func TestWhatElseALoanHas(t *testing.T) {
	for months := range maxLate + 1 {
		for _, over := range []bool{false, true} {
			for _, id := range []int{math.MinInt, -1, 0, 3, math.MaxInt} {
				for _, lost := range []int{math.MinInt, -7, 0, 7, maxCents, math.MaxInt} {
					l := pool.Loan{Loan: api.Loan{Id: id, Balance: 11}, Lost: lost, Late: months, Over: over}
					var want late.Buckets
					want[places[months]] = 22
					shows(t, "two of one Id", late.Of(l, l), want)
				}
			}
		}
	}
}

// P10.1: loans as a pool has them: what is over has no balance left.
func TestOfAPool(t *testing.T) {
	p := pool.New(
		api.Loan{Id: 1, Balance: 10}, api.Loan{Id: 2, Balance: 20}, api.Loan{Id: 3, Balance: 30},
		api.Loan{Id: 4, Balance: 40}, api.Loan{Id: 5, Balance: 50},
	)
	shows(t, "as it begins", late.Of(p.Loans()...), late.Buckets{150})
	tape := []api.Line{
		{Id: 1, Principal: 1}, {Id: 2, Late: 2}, {Id: 3, Principal: 3, Late: 3}, {Id: 4, Late: maxLate},
		{Id: 5, Principal: 5, Late: 6, Default: true, Recov: 2},
	}
	if _, e := p.Apply(tape); e != api.OK {
		t.Fatal("the tape", e)
	}
	b := late.Of(p.Loans()...)
	shows(t, "behind a tape", b, late.Buckets{9, 20, 27, 40})
	if b.All() != p.Balance() {
		t.Error("All", b.All(), "of a pool of", p.Balance())
	}
}

// P10.1: buckets that no Of made: each one counts in From from 0 to its own
// place and in no other.
func TestFromOfAnyBuckets(t *testing.T) {
	for n := range 5 * 5 * 5 * 5 {
		b := late.Buckets{n % 5, n / 5 % 5 * 10, n / 25 % 5 * 100, n / 125 * 1000}
		shows(t, "small", b, b)
	}
	shows(t, "below 0", late.Buckets{-1, -20, -300, -4000}, late.Buckets{-1, -20, -300, -4000})
	shows(t, "great", late.Buckets{1 << 60, 1 << 60, 1 << 60, 1 << 60}, late.Buckets{1 << 60, 1 << 60, 1 << 60, 1 << 60})
}

// R1: of any loans and buckets every call ends.
func TestAnyLoans(t *testing.T) {
	ends := []int{math.MinInt, math.MinInt + 1, -maxCents - 1, -1, 0, 1, maxCents + 1, math.MaxInt - 1, math.MaxInt}
	var all []pool.Loan
	for _, balance := range ends {
		for _, months := range ends {
			all = append(all, loan(balance, months))
		}
	}
	all = append(all, make([]pool.Loan, 100000)...)
	b := late.Of(all...)
	for _, n := range ends {
		b.From(n)
		late.Buckets{n, n, n, n}.All()
		late.Buckets{n, n, n, n}.From(n)
	}
}

// R2 and R5: loans stay as they were, those behind the length are not read,
// and what came of loans doesn't turn with them.
func TestWhatOfWasHanded(t *testing.T) {
	room := []pool.Loan{loan(1, 0), loan(20, 2), loan(300, 5), loan(4000, 6), loan(50000, 0), loan(60000, 9)}
	before := slices.Clone(room)
	for count, want := range []late.Buckets{{}, {1}, {1, 20}, {1, 20, 300}, {1, 20, 300, 4000}} {
		b := late.Of(room[:count]...)
		shows(t, "a piece", b, want)
		if !slices.Equal(room, before) {
			t.Errorf("%v: turned to %v", before, room)
		}
		clear(room)
		shows(t, "once they were cleared", b, want)
		copy(room, before)
	}
}

// Ways: buckets are a value: a copy goes on by itself.
func TestBucketsAreAValue(t *testing.T) {
	b := late.Of(loan(5, 0), loan(6, 7))
	c := b
	c[0], c[2] = 9, 1
	shows(t, "the first", b, late.Buckets{5, 0, 0, 6})
	shows(t, "its copy", c, late.Buckets{9, 0, 1, 6})
	if len(b) != 4 || b.From(len(b)) != 0 {
		t.Error("how many", len(b))
	}
}

// mayBe is the last sentence of P10.2.
func mayBe(a, b, parts int) bool {
	return 0 <= a && a <= maxCents && 0 <= b && b <= maxCents && 0 <= parts && parts <= maxTest
}

// compared is how a times Whole stands to b times parts, in numbers without
// end: -1, 0 or 1.
func compared(a, b, parts int) int {
	left := new(big.Int).Mul(big.NewInt(int64(a)), big.NewInt(whole))
	right := new(big.Int).Mul(big.NewInt(int64(b)), big.NewInt(int64(parts)))
	return left.Cmp(right)
}

// holds checks a ratio against P10.2 in numbers without end, and P10.3.
func holds(t *testing.T, a, b, parts int) {
	t.Helper()
	least, most := late.AtLeast(a, b, parts), late.AtMost(a, b, parts)
	if !mayBe(a, b, parts) {
		if least || most {
			t.Errorf("%d by %d, %d: %v, %v; want false, false", a, b, parts, least, most)
		}
		return
	}
	way := compared(a, b, parts)
	if least != (way >= 0) || most != (way <= 0) {
		t.Errorf("%d by %d, %d: %v, %v; want %v, %v", a, b, parts, least, most, way >= 0, way <= 0)
	}
	if !least && !most || least && most != (way == 0) {
		t.Errorf("P10.3: %d by %d, %d: %v, %v", a, b, parts, least, most)
	}
}

// tells checks a ratio against answers that are written out.
func tells(t *testing.T, a, b, parts int, least, most bool) {
	t.Helper()
	if late.AtLeast(a, b, parts) != least || late.AtMost(a, b, parts) != most {
		t.Errorf("%d by %d, %d: want %v, %v", a, b, parts, least, most)
	}
	holds(t, a, b, parts)
}

// P10.2 and P10.3: numbers whose products are equal; of these one cent less,
// one more, one part less, one more. The greater ones lie past what a float
// can tell apart.
func TestEqualProducts(t *testing.T) {
	for _, c := range []struct{ a, b, parts int }{
		{105, 100, 10500}, {1, 1, 10000}, {1, 2, 5000}, {1, 10000, 1}, {1, 5000, 2}, {10, 1, 100000},
		{1, 100, 100}, {3, 4, 7500}, {7, 10000, 7}, {99999, 10000, 99999}, {100000, 10000, 100000},
		{maxCents, maxCents, whole}, {maxCents - 1, maxCents - 1, whole}, {maxCents / 2, maxCents, whole / 2},
		{maxCents, maxCents / 2, 2 * whole}, {1099511627770, 109951162777, maxTest},
		{109951162, 1099511620000, 1}, {1000100000000, 1000000000000, 10001},
	} {
		tells(t, c.a, c.b, c.parts, true, true)
		tells(t, c.a-1, c.b, c.parts, false, true)
		if c.a < maxCents {
			tells(t, c.a+1, c.b, c.parts, true, false)
		}
		tells(t, c.a, c.b, c.parts-1, true, false)
		if c.parts < maxTest {
			tells(t, c.a, c.b, c.parts+1, false, true)
		}
		tells(t, c.a, c.b-1, c.parts, true, false)
		if c.b < maxCents {
			tells(t, c.a, c.b+1, c.parts, false, true)
		}
	}
}

// P10.2: products that are one from each other, small and great.
func TestProductsNextToEachOther(t *testing.T) {
	tells(t, 1, 1, whole-1, true, false)
	tells(t, 1, 1, whole+1, false, true)
	tells(t, 1, 3, 3333, true, false)
	tells(t, 1, 3, 3334, false, true)
	tells(t, 1000100000001, 1000000000001, 10001, false, true)
	tells(t, 1000099999999, 999999999999, 10001, true, false)
	tells(t, 1000000000000, 1000100010001, 9999, true, false)
}

// P10.2: nothing of each number, alone and with others, and the most of each.
func TestNothingAndTheMost(t *testing.T) {
	for _, parts := range []int{0, 1, 5, whole - 1, whole, whole + 1, maxTest - 1, maxTest} {
		tells(t, 0, 0, parts, true, true)
		for _, n := range []int{1, 2, whole, maxCents - 1, maxCents} {
			tells(t, n, 0, parts, true, false)
			tells(t, 0, n, parts, parts == 0, true)
			tells(t, n, n, parts, parts <= whole, parts >= whole)
		}
	}
	for _, n := range []int{1, 2, whole, maxCents - 1, maxCents} {
		tells(t, n, 1, 0, true, false)
		tells(t, n, maxCents, 0, true, false)
	}
	tells(t, maxCents, maxCents, maxTest, false, true)
	tells(t, maxCents, 1, maxTest, true, false)
	tells(t, 1, maxCents, maxTest, false, true)
	tells(t, maxCents, maxCents, 0, true, false)
	tells(t, 0, maxCents, maxTest, false, true)
}

// P10.2 and P10.3: small ratios, each held against numbers without end.
func TestSmallRatios(t *testing.T) {
	for a := range 24 {
		for b := range 24 {
			for _, parts := range []int{0, 1, 2, 3333, 3334, 5000, 6666, 6667, 7500, 9999, 10000, 10001, 12500, 20000, 33333, 33334, 50000, 99999, 100000} {
				holds(t, a, b, parts)
			}
			if b > 0 && a*whole/b < maxTest {
				holds(t, a, b, a*whole/b)
				holds(t, a, b, a*whole/b+1)
			}
		}
	}
}

// ends are the numbers around which a bound may break, those among them whose
// products wrap round to what would be right.
var ends = []int{
	math.MinInt, math.MinInt + 1, math.MinInt + 2, -1 << 62, -1 << 60, -1<<60 + 1, -maxCents - 1, -maxCents, -maxTest - 1, -maxTest,
	-whole, -2, -1, 0, 1, 2, whole - 1, whole, whole + 1, maxTest - 1, maxTest, maxTest + 1, maxTest + 2,
	1 << 31, 1 << 32, 1<<32 + 1, maxCents - 1, maxCents, maxCents + 1, maxCents + 2, 1 << 46, 1 << 59, 1 << 60, 1<<60 + 1,
	1 << 62, math.MaxInt - 1, math.MaxInt,
}

// P10.2: every three of the ends.
func TestEnds(t *testing.T) {
	for _, a := range ends {
		for _, b := range ends {
			for _, parts := range ends {
				holds(t, a, b, parts)
			}
		}
	}
}

// P10.2: one number that may not be, beside two that may, up to the ends of
// int: neither holds.
func TestOneWrongNumber(t *testing.T) {
	right := []struct{ a, b, parts int }{
		{0, 0, 0}, {0, 0, 5}, {5, 5, 5}, {1, 1, whole}, {105, 100, 10500}, {maxCents, maxCents, whole}, {maxCents, maxCents, maxTest},
	}
	for _, c := range right {
		for _, n := range ends {
			if n < 0 || n > maxCents {
				tells(t, n, c.b, c.parts, false, false)
				tells(t, c.a, n, c.parts, false, false)
			}
			if n < 0 || n > maxTest {
				tells(t, c.a, c.b, n, false, false)
			}
		}
		for bit := range 64 {
			for _, n := range []int{1 << bit, -1 << bit, 1<<bit + 1, 1<<bit - 1} {
				holds(t, n, c.b, c.parts)
				holds(t, c.a, n, c.parts)
				holds(t, c.a, c.b, n)
			}
		}
	}
	tells(t, -1, -1, whole, false, false)
	tells(t, 5, -5, -whole, false, false)
	tells(t, maxCents+1, maxCents+1, whole, false, false)
}

// P10.2 and P10.3: many numbers, half of them next to equal products.
func TestManyRatios(t *testing.T) {
	seed := uint64(10)
	below := func(n int) int {
		seed = seed*6364136223846793005 + 1442695040888963407
		return int((seed >> 11) % uint64(n))
	}
	for range 200000 {
		b, parts := below(maxCents+1)>>below(40), below(maxTest+1)>>below(16)
		near := b * parts / whole
		holds(t, below(maxCents+1)>>below(40), b, parts)
		holds(t, near+below(3)-1, b, parts)
	}
}
