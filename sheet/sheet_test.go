package sheet_test

import (
	"math"
	"math/big"
	"slices"
	"testing"

	"cascade/cents"
	"cascade/sheet"
)

const top = cents.Top

// most is the greatest number of accounts, and of entries, of P7.1.
const most = 64

// edges are the numbers around which a promise may break.
var edges = []int{
	math.MinInt, math.MinInt + 1, -2 * top, -top - 1, -top, 1 - top, -65, -64, -3, -1,
	0, 1, 2, 3, 63, 64, 65, top - 1, top, top + 1, 2 * top, math.MaxInt - 1, math.MaxInt,
}

func en(account, amount int) sheet.Entry {
	return sheet.Entry{Account: account, Amount: amount}
}

// amounts are entries of these amounts, each of the account at its place.
func amounts(l ...int) []sheet.Entry {
	entries := make([]sheet.Entry, len(l))
	for i, n := range l {
		entries[i] = en(i, n)
	}
	return entries
}

// many are count entries of one account and amount.
func many(count, account, amount int) []sheet.Entry {
	return slices.Repeat([]sheet.Entry{en(account, amount)}, count)
}

// holds asks a sheet for all that it tells.
func holds(t *testing.T, what string, s *sheet.Sheet, count int, want ...int) {
	t.Helper()
	if got := s.Balances(); !slices.Equal(got, want) {
		t.Errorf("%s: Balances() = %v; want %v", what, got, want)
	}
	if got := s.Count(); got != count {
		t.Errorf("%s: Count() = %d; want %d", what, got, count)
	}
	for i, n := range want {
		if got := s.Balance(i); got != n {
			t.Errorf("%s: Balance(%d) = %d; want %d", what, i, got, n)
		}
	}
}

// with is a sheet with these balances, which are 0 together, and its count.
func with(t *testing.T, balances ...int) *sheet.Sheet {
	t.Helper()
	s := sheet.New(len(balances))
	if !s.Post(amounts(balances...)...) {
		t.Fatal("no sheet with", balances)
	}
	holds(t, "as made", s, 1, balances...)
	return s
}

// The chapter's run.
func TestRun(t *testing.T) {
	s := sheet.New(3)
	if !s.Move(0, 1, 5) {
		t.Error("Move(0, 1, 5)")
	}
	holds(t, "behind the move", s, 1, -5, 5, 0)
	if !s.Post(en(1, -2), en(2, 2)) {
		t.Error("Post((1, -2), (2, 2))")
	}
	holds(t, "behind the post", s, 2, -5, 3, 2)
	if s.Post(en(0, 1)) {
		t.Error("Post((0, 1))")
	}
	holds(t, "behind the refused post", s, 2, -5, 3, 2)
}

// P7.1: so many accounts, or the nearest number; the last of them is there, and
// the one behind it isn't.
func TestNew(t *testing.T) {
	for _, c := range []struct{ asked, want int }{
		{0, 0}, {1, 1}, {2, 2}, {3, 3}, {17, 17}, {63, 63}, {64, 64}, {65, 64}, {66, 64}, {128, 64}, {1 << 32, 64},
		{-1, 0}, {-2, 0}, {-64, 0}, {top, 64}, {-top, 0},
		{math.MaxInt - 1, 64}, {math.MaxInt, 64}, {math.MinInt, 0}, {math.MinInt + 1, 0},
	} {
		s := sheet.New(c.asked)
		holds(t, "New", s, 0, make([]int, c.want)...)
		for account := -1; account <= most+1; account++ {
			there := 0 <= account && account < c.want
			if got := sheet.New(c.asked).Post(en(account, 0)); got != there {
				t.Errorf("New(%d) has account %d: %v", c.asked, account, got)
			}
		}
	}
}

// P7.1: no two sheets have an account together.
func TestSheetsAreApart(t *testing.T) {
	first, second := sheet.New(2), sheet.New(2)
	if !first.Move(0, 1, 5) {
		t.Error("Move")
	}
	holds(t, "moved", first, 1, -5, 5)
	holds(t, "another", second, 0, 0, 0)
	copied := *first
	if !first.Move(0, 1, 2) || !copied.Move(1, 0, 4) {
		t.Error("Move of a copied one")
	}
	holds(t, "the first", first, 2, -7, 7)
	holds(t, "its copy", &copied, 2, -1, 1)
}

// P7.1
func TestNet(t *testing.T) {
	sevenTops := amounts(slices.Repeat([]int{top}, 7)...)
	sevenLows := amounts(slices.Repeat([]int{-top}, 7)...)
	for _, c := range []struct {
		name string
		l    []sheet.Entry
		want int
		ok   bool
	}{
		{"none, nil", nil, 0, true},
		{"none, empty", []sheet.Entry{}, 0, true},
		{"one", amounts(5), 5, true},
		{"one below 0", amounts(-5), -5, true},
		{"one of 0", amounts(0), 0, true},
		{"several", amounts(5, -8, 1), -2, true},
		{"several that come out even", amounts(5, -8, 3), 0, true},
		{"several of one account", []sheet.Entry{en(2, 5), en(2, 6), en(2, -1)}, 10, true},
		{"any accounts", []sheet.Entry{en(math.MinInt, 5), en(math.MaxInt, -8), en(-1, 1), en(64, 1)}, -1, true},
		{"just Top", amounts(top), top, true},
		{"just -Top", amounts(-top), -top, true},
		{"a cent past Top", amounts(top + 1), 0, false},
		{"a cent past -Top", amounts(-top - 1), 0, false},
		{"a cent past Top, first", amounts(top+1, -1), 0, false},
		{"a cent past -Top, last", amounts(5, -5, -top-1), 0, false},
		{"a cent past both, even", amounts(top+1, -top-1), 0, false},
		{"the greatest int", amounts(math.MaxInt), 0, false},
		{"the least int", amounts(math.MinInt), 0, false},
		{"the ends, even", amounts(math.MaxInt, -math.MaxInt), 0, false},
		{"the least int twice, which wraps round to 0", amounts(math.MinInt, math.MinInt), 0, false},
		{"63", many(63, 0, 1), 63, true},
		{"64", many(64, 0, 1), 64, true},
		{"64 below 0", many(64, 0, -3), -192, true},
		{"64 noughts", many(64, 0, 0), 0, true},
		{"65", many(65, 0, 1), 0, false},
		{"65 noughts", many(65, 0, 0), 0, false},
		{"66, even", slices.Concat(many(33, 0, 1), many(33, 1, -1)), 0, false},
		{"1000", many(1000, 0, 1), 0, false},
		{"7 Tops", sevenTops, 7 * top, true},
		{"7 lows", sevenLows, -7 * top, true},
		{"the greatest int, by sum", append(amounts(top-1), sevenTops...), math.MaxInt, true},
		{"the greatest int, by sum, in another order", append(slices.Clone(sevenTops), en(0, top-1)), math.MaxInt, true},
		{"one past the greatest int", many(8, 0, top), 0, false},
		{"one past it on the way alone, first", append(many(8, 0, top), en(0, -1)), math.MaxInt, true},
		{"one past it on the way alone, last", append(amounts(-1), many(8, 0, top)...), math.MaxInt, true},
		{"two past the greatest int", append(many(8, 0, top), en(0, 1)), 0, false},
		{"the least int, by sum", many(8, 0, -top), math.MinInt, true},
		{"one past the least int, behind it", append(many(8, 0, -top), en(0, -1)), 0, false},
		{"one past the least int, ahead of it", append(amounts(-1), many(8, 0, -top)...), 0, false},
		{"one past it on the way alone, and back", append(many(8, 0, -top), en(0, -1), en(0, 1)), math.MinInt, true},
		{"one past it, by another order", append(amounts(1, -1), many(8, 0, -top)...), math.MinInt, true},
		{"one above the least int", append(many(8, 0, -top), en(0, 1)), math.MinInt + 1, true},
		{"16 Tops, which wrap round to 0", many(16, 0, top), 0, false},
		{"16 lows, which wrap round to 0", many(16, 0, -top), 0, false},
		{"32 Tops", many(32, 0, top), 0, false},
		{"64 Tops", many(64, 0, top), 0, false},
		{"64 lows", many(64, 0, -top), 0, false},
		{"17 Tops, which wrap round to Top", many(17, 0, top), 0, false},
		{"32 Tops and 32 lows", slices.Concat(many(32, 0, top), many(32, 1, -top)), 0, true},
		{"32 lows and 32 Tops", slices.Concat(many(32, 0, -top), many(32, 1, top)), 0, true},
		{"33 Tops and 31 lows", slices.Concat(many(33, 0, top), many(31, 1, -top)), 2 * top, true},
		{"31 Tops and 33 lows", slices.Concat(many(31, 0, top), many(33, 1, -top)), -2 * top, true},
		{"36 Tops and 28 lows", slices.Concat(many(36, 0, top), many(28, 1, -top)), 0, false},
		{"28 Tops and 36 lows", slices.Concat(many(28, 0, top), many(36, 1, -top)), math.MinInt, true},
		{"40 Tops and 24 lows, which wrap round to 0", slices.Concat(many(40, 0, top), many(24, 1, -top)), 0, false},
	} {
		if got, ok := sheet.Net(c.l...); got != c.want || ok != c.ok {
			t.Errorf("%s: Net = %d, %v; want %d, %v", c.name, got, ok, c.want, c.ok)
		}
		turned := slices.Clone(c.l)
		slices.Reverse(turned)
		if got, ok := sheet.Net(turned...); got != c.want || ok != c.ok {
			t.Errorf("%s, reversed: Net = %d, %v; want %d, %v", c.name, got, ok, c.want, c.ok)
		}
	}
	if got, ok := sheet.Net(); got != 0 || !ok {
		t.Error("Net()", got, ok)
	}
}

// bigNet is P7.1's sum with numbers that have no end.
func bigNet(l []sheet.Entry) (int, bool) {
	sum := new(big.Int)
	for _, e := range l {
		if e.Amount < -top || e.Amount > top {
			return 0, false
		}
		sum.Add(sum, big.NewInt(int64(e.Amount)))
	}
	if len(l) > most || !sum.IsInt64() {
		return 0, false
	}
	return int(sum.Int64()), true
}

// model is a sheet of numbers without end.
type model struct {
	balances []*big.Int
	count    int
}

func newModel(accounts int) *model {
	m := &model{}
	for range accounts {
		m.balances = append(m.balances, new(big.Int))
	}
	return m
}

// post is P7.2.
func (m *model) post(l []sheet.Entry) bool {
	if net, ok := bigNet(l); len(l) == 0 || net != 0 || !ok {
		return false
	}
	next := make([]*big.Int, len(m.balances))
	for i, b := range m.balances {
		next[i] = new(big.Int).Set(b)
	}
	for _, e := range l {
		if e.Account < 0 || e.Account >= len(next) {
			return false
		}
		next[e.Account].Add(next[e.Account], big.NewInt(int64(e.Amount)))
	}
	for _, b := range next {
		if b.CmpAbs(big.NewInt(top)) > 0 {
			return false
		}
	}
	m.balances = next
	m.count++
	return true
}

// move is P7.2.
func (m *model) move(from, to, amount int) bool {
	return amount >= 0 && amount <= top && m.post([]sheet.Entry{en(from, -amount), en(to, amount)})
}

// told is what Balances should tell.
func (m *model) told() []int {
	l := make([]int, len(m.balances))
	for i, b := range m.balances {
		l[i] = int(b.Int64())
	}
	return l
}

// together is the exact sum of balances.
func together(l []int) *big.Int {
	sum := new(big.Int)
	for _, n := range l {
		sum.Add(sum, big.NewInt(int64(n)))
	}
	return sum
}

// P7.2
func TestPost(t *testing.T) {
	for _, c := range []struct {
		name  string
		start []int
		l     []sheet.Entry
		want  []int // nil: refused
	}{
		{"two accounts", []int{-5, 3, 2}, []sheet.Entry{en(0, 4), en(2, -4)}, []int{-1, 3, -2}},
		{"three accounts", []int{-5, 3, 2}, []sheet.Entry{en(2, 7), en(0, -4), en(1, -3)}, []int{-9, 0, 9}},
		{"one of 0", []int{-5, 3, 2}, amounts(0), []int{-5, 3, 2}},
		{"noughts", []int{-5, 3, 2}, amounts(0, 0, 0), []int{-5, 3, 2}},
		{"several of one account", []int{-5, 3, 2}, []sheet.Entry{en(1, 1), en(1, 2), en(0, -10), en(1, 7)}, []int{-15, 13, 2}},
		{"one account, even", []int{-5, 3, 2}, []sheet.Entry{en(1, 9), en(1, -9)}, []int{-5, 3, 2}},
		{"the last account", []int{-5, 3, 2}, []sheet.Entry{en(2, -2), en(2, 1), en(0, 1)}, []int{-4, 3, 1}},

		{"none", []int{-5, 3, 2}, nil, nil},
		{"none, empty", []int{-5, 3, 2}, []sheet.Entry{}, nil},
		{"a cent too much", []int{-5, 3, 2}, amounts(1), nil},
		{"a cent too little", []int{-5, 3, 2}, amounts(-1), nil},
		{"not even by a cent", []int{-5, 3, 2}, amounts(5, -4), nil},
		{"not even by a cent, the other way", []int{-5, 3, 2}, amounts(4, -5), nil},
		{"not even by much", []int{-5, 3, 2}, amounts(top, top, top), nil},
		{"not even, a balance of 0 behind it", []int{-5, 3, 2}, amounts(5), nil},
		{"an account below 0", []int{-5, 3, 2}, []sheet.Entry{en(0, 1), en(-1, -1)}, nil},
		{"an account below 0, first", []int{-5, 3, 2}, []sheet.Entry{en(-1, 1), en(0, -1)}, nil},
		{"just behind the last", []int{-5, 3, 2}, []sheet.Entry{en(0, 1), en(3, -1)}, nil},
		{"just behind the last, first", []int{-5, 3, 2}, []sheet.Entry{en(3, 1), en(0, -1)}, nil},
		{"just behind the last, in the midst", []int{-5, 3, 2}, []sheet.Entry{en(0, 1), en(3, 0), en(1, -1)}, nil},
		{"none there, of 0", []int{-5, 3, 2}, []sheet.Entry{en(3, 0)}, nil},
		{"none there, even", []int{-5, 3, 2}, []sheet.Entry{en(3, 5), en(3, -5)}, nil},
		{"the last that a sheet may have", []int{-5, 3, 2}, []sheet.Entry{en(63, 1), en(0, -1)}, nil},
		{"behind the last that a sheet may have", []int{-5, 3, 2}, []sheet.Entry{en(64, 1), en(0, -1)}, nil},
		{"the greatest account", []int{-5, 3, 2}, []sheet.Entry{en(math.MaxInt, 1), en(0, -1)}, nil},
		{"the least account", []int{-5, 3, 2}, []sheet.Entry{en(math.MinInt, 1), en(0, -1)}, nil},
		{"an amount past Top, even", []int{-5, 3, 2}, []sheet.Entry{en(0, top+1), en(0, -top), en(0, -1)}, nil},
		{"an amount past -Top, even", []int{-5, 3, 2}, []sheet.Entry{en(0, -top-1), en(0, top), en(0, 1)}, nil},
		{"amounts at an int's ends, even", []int{-5, 3, 2}, amounts(math.MaxInt, -math.MaxInt), nil},
		{"amounts that wrap round to 0", []int{-5, 3, 2}, amounts(math.MinInt, math.MinInt), nil},
		{"64 entries", []int{-5, 3, 2}, slices.Concat(many(32, 0, 2), many(32, 1, -2)), []int{59, -61, 2}},
		{"65 entries", []int{-5, 3, 2}, slices.Concat(many(32, 0, 2), many(32, 1, -2), many(1, 2, 0)), nil},
		{"66 entries", []int{-5, 3, 2}, slices.Concat(many(33, 0, 2), many(33, 1, -2)), nil},

		{"just Top", []int{0, 0}, amounts(-top, top), []int{-top, top}},
		{"just Top, from something", []int{-5, 5}, amounts(5-top, top-5), []int{-top, top}},
		{"a cent past Top and -Top", []int{-5, 5}, amounts(4-top, top-4), nil},
		{"a cent past Top alone", []int{-3, 5, -2}, amounts(4-top, top-4), nil},
		{"a cent past -Top alone", []int{-5, 3, 2}, amounts(4-top, top-4), nil},
		{"the last account a cent past Top", []int{0, -1, 1}, []sheet.Entry{en(0, -top), en(2, top)}, nil},
		{"the last account a cent past -Top", []int{0, 1, -1}, []sheet.Entry{en(0, top), en(2, -top)}, nil},
		{"from Top a cent on", []int{-top, top}, amounts(-1, 1), nil},
		{"from Top a cent back", []int{-top, top}, amounts(1, -1), []int{1 - top, top - 1}},
		{"from Top nothing", []int{-top, top}, amounts(0, 0), []int{-top, top}},
		{"from end to end", []int{-top, top}, []sheet.Entry{en(0, top), en(1, -top), en(1, -top), en(0, top)}, []int{top, -top}},
		{"from end to a cent past the other", []int{-top, top},
			[]sheet.Entry{en(0, top), en(1, -top), en(1, -top), en(0, top), en(0, 1), en(1, -1)}, nil},
		{"past it on the way alone", []int{-top, top}, []sheet.Entry{en(0, -1), en(1, 1), en(1, -1), en(0, 1)}, []int{-top, top}},
		{"far past it on the way alone", []int{-top, top, 0},
			slices.Concat(many(16, 1, top), many(16, 0, -top), many(16, 1, -top), many(16, 0, top)), []int{-top, top, 0}},
		{"far past it the other way", []int{-top, top, 0},
			slices.Concat(many(16, 1, -top), many(16, 0, top), many(16, 1, top), many(15, 0, -top), many(1, 0, -top)), []int{-top, top, 0}},
		{"32 Tops, which wrap round to where it was", []int{-5, 3, 2}, slices.Concat(many(32, 0, top), many(32, 1, -top)), nil},
		{"16 Tops, which wrap round to where it was", []int{-5, 3, 2}, slices.Concat(many(16, 0, top), many(16, 1, -top)), nil},
		{"15 Tops, which wrap round to bounds", []int{-5, 3, 2}, slices.Concat(many(15, 0, top), many(15, 1, -top)), nil},
		{"8 Tops", []int{-top, top}, slices.Concat(many(8, 1, top), many(8, 0, -top)), nil},
		{"2 Tops", []int{0, 0}, amounts(top, -top, 0)[:2], []int{top, -top}},
	} {
		s := with(t, c.start...)
		if got := s.Post(c.l...); got != (c.want != nil) {
			t.Errorf("%s: Post = %v", c.name, got)
		}
		if c.want == nil {
			holds(t, c.name, s, 1, c.start...)
		} else {
			holds(t, c.name, s, 2, c.want...)
		}
	}
	if sheet.New(3).Post() {
		t.Error("Post()")
	}
}

// P7.2: the entries of one post in another order come to the same, whichever of
// them is past the bounds on the way.
func TestPostInAnotherOrder(t *testing.T) {
	for _, start := range [][]int{{0, 0, 0}, {-top, top, 0}, {top, -1, 1 - top}, {-7, 3, 4}} {
		for _, l := range [][]sheet.Entry{
			{en(0, top), en(1, -top), en(0, -5), en(1, 5)},
			{en(0, top), en(0, top), en(1, -top), en(1, -top)},
			{en(0, top), en(1, -1), en(2, 1-top), en(2, 0)},
			{en(1, 1), en(2, 1), en(0, -1), en(0, -1)},
			{en(0, 1), en(3, -1), en(0, 0), en(1, 0)},
			{en(0, top), en(0, top), en(0, -top), en(1, 1-top)},
		} {
			m := newModel(3)
			m.post(amounts(start...))
			posted := m.post(l)
			orders(l, func(turned []sheet.Entry) {
				s := with(t, start...)
				if s.Post(turned...) != posted || !slices.Equal(s.Balances(), m.told()) || s.Count() != m.count {
					t.Errorf("%v, Post(%v): %v; want %v, %v", start, turned, s.Balances(), posted, m.told())
				}
			})
		}
	}
}

// orders calls ask with l in each order.
func orders[T any](l []T, ask func(turned []T)) {
	var turn func(turned, rest []T)
	turn = func(turned, rest []T) {
		if len(rest) == 0 {
			ask(turned)
		}
		for i, e := range rest {
			turn(append(slices.Clone(turned), e), append(slices.Clone(rest[:i]), rest[i+1:]...))
		}
	}
	turn(nil, l)
}

// P7.2
func TestMove(t *testing.T) {
	for _, c := range []struct {
		name             string
		start            []int
		from, to, amount int
		want             []int // nil: refused
	}{
		{"a cent", []int{-5, 3, 2}, 0, 1, 1, []int{-6, 4, 2}},
		{"back", []int{-5, 3, 2}, 1, 0, 3, []int{-2, 0, 2}},
		{"to the last", []int{-5, 3, 2}, 0, 2, 4, []int{-9, 3, 6}},
		{"from the last", []int{-5, 3, 2}, 2, 0, 4, []int{-1, 3, -2}},
		{"0", []int{-5, 3, 2}, 0, 1, 0, []int{-5, 3, 2}},
		{"Top", []int{0, 0, 0}, 0, 1, top, []int{-top, top, 0}},
		{"Top, from where there is room alone", []int{top, -top, 0}, 0, 1, top, []int{0, 0, 0}},
		{"Top, from what is below 0", []int{-1, 0, 1}, 0, 1, top, nil},
		{"Top, to what is above 0", []int{0, 1, -1}, 0, 1, top, nil},
		{"just to Top", []int{5, -5, 0}, 0, 1, top, []int{5 - top, top - 5, 0}},
		{"a cent past Top", []int{-top, top, 0}, 2, 1, 1, nil},
		{"a cent past -Top", []int{-top, top, 0}, 0, 2, 1, nil},
		{"0 at the ends", []int{-top, top, 0}, 0, 1, 0, []int{-top, top, 0}},
		{"above Top", []int{top, -top, 0}, 0, 1, top + 1, nil},
		{"above Top to itself", []int{-5, 3, 2}, 1, 1, top + 1, nil},
		{"below 0", []int{-5, 3, 2}, 0, 1, -1, nil},
		{"below 0 to itself", []int{-5, 3, 2}, 1, 1, -1, nil},
		{"-Top", []int{0, 0, 0}, 0, 1, -top, nil},
		{"the greatest int", []int{-5, 3, 2}, 0, 1, math.MaxInt, nil},
		{"the least int", []int{-5, 3, 2}, 0, 1, math.MinInt, nil},
		{"to itself", []int{-5, 3, 2}, 1, 1, 7, []int{-5, 3, 2}},
		{"0 to itself", []int{-5, 3, 2}, 2, 2, 0, []int{-5, 3, 2}},
		{"Top to itself", []int{-5, 3, 2}, 0, 0, top, []int{-5, 3, 2}},
		{"Top to itself at the upper end", []int{-top, top, 0}, 1, 1, top, []int{-top, top, 0}},
		{"Top to itself at the lower end", []int{-top, top, 0}, 0, 0, top, []int{-top, top, 0}},
		{"from none", []int{-5, 3, 2}, -1, 1, 1, nil},
		{"to none", []int{-5, 3, 2}, 0, -1, 1, nil},
		{"from just behind the last", []int{-5, 3, 2}, 3, 1, 1, nil},
		{"to just behind the last", []int{-5, 3, 2}, 0, 3, 1, nil},
		{"0 from none", []int{-5, 3, 2}, 3, 1, 0, nil},
		{"0 to none", []int{-5, 3, 2}, 1, 3, 0, nil},
		{"none to itself", []int{-5, 3, 2}, 3, 3, 1, nil},
		{"from the greatest int", []int{-5, 3, 2}, math.MaxInt, 0, 1, nil},
		{"to the least int", []int{-5, 3, 2}, 0, math.MinInt, 1, nil},
	} {
		s := with(t, c.start...)
		if got := s.Move(c.from, c.to, c.amount); got != (c.want != nil) {
			t.Errorf("%s: Move(%d, %d, %d) = %v", c.name, c.from, c.to, c.amount, got)
		}
		if c.want == nil {
			holds(t, c.name, s, 1, c.start...)
		} else {
			holds(t, c.name, s, 2, c.want...)
		}
	}
}

// P7.2: accounts and amounts at all edges.
func TestMoveOfEdges(t *testing.T) {
	for _, start := range [][]int{{0, 0, 0}, {-top, top, 0}, {-5, 3, 2}} {
		for _, from := range edges {
			for _, to := range edges {
				for _, amount := range edges {
					m := newModel(3)
					m.post(amounts(start...))
					s := with(t, start...)
					want := m.move(from, to, amount)
					if s.Move(from, to, amount) != want || !slices.Equal(s.Balances(), m.told()) || s.Count() != m.count {
						t.Errorf("%v, Move(%d, %d, %d): %v; want %v", start, from, to, amount, s.Balances(), want)
					}
				}
			}
		}
	}
}

// P7.1, P7.2: amounts at all edges.
func TestPostOfEdges(t *testing.T) {
	for _, a := range edges {
		for _, b := range edges {
			for _, c := range edges {
				l := []sheet.Entry{en(0, a), en(1, b), en(0, c)}
				got, ok := sheet.Net(l...)
				if want, right := bigNet(l); got != want || ok != right {
					t.Errorf("Net(%v) = %d, %v; want %d, %v", l, got, ok, want, right)
				}
				m, s := newModel(2), sheet.New(2)
				if s.Post(l...) != m.post(l) || !slices.Equal(s.Balances(), m.told()) || s.Count() != m.count {
					t.Errorf("Post(%v): %v; want %v", l, s.Balances(), m.told())
				}
			}
		}
	}
}

// P7.3: no account has balance 0.
func TestBalanceOfNone(t *testing.T) {
	for _, accounts := range []int{0, 1, 2, 3, 63, 64} {
		s := sheet.New(accounts)
		for i := range accounts / 2 {
			s.Move(i, accounts-1-i, i+1)
		}
		all := s.Balances()
		for _, account := range slices.Concat(edges, []int{accounts - 1, accounts, accounts + 1, -accounts, 127, 128, 1 << 32}) {
			want := 0
			if account >= 0 && account < accounts {
				want = all[account]
			}
			if got := s.Balance(account); got != want {
				t.Errorf("of %d accounts Balance(%d) = %d; want %d", accounts, account, got, want)
			}
		}
	}
}

// P7.3: what is refused isn't counted, what is posted or moved is, once, even
// if it changes nothing; asking changes nothing.
func TestCount(t *testing.T) {
	s := sheet.New(3)
	count := 0
	step := func(what string, done, want bool, balances ...int) {
		t.Helper()
		if done != want {
			t.Error(what, done)
		}
		if want {
			count++
		}
		for range 2 {
			holds(t, what, s, count, balances...)
		}
	}
	step("nothing", false, false, 0, 0, 0)
	step("a refused post first", s.Post(en(0, 1)), false, 0, 0, 0)
	step("a move", s.Move(0, 1, 5), true, -5, 5, 0)
	step("a move of 0", s.Move(0, 1, 0), true, -5, 5, 0)
	step("a move to itself", s.Move(2, 2, 9), true, -5, 5, 0)
	step("a refused move", s.Move(0, 3, 9), false, -5, 5, 0)
	step("a refused amount", s.Move(0, 1, -1), false, -5, 5, 0)
	step("a post of one", s.Post(en(2, 0)), true, -5, 5, 0)
	step("a post of four", s.Post(en(2, 1), en(2, 2), en(0, -4), en(1, 1)), true, -9, 6, 3)
	step("a post of none", s.Post(), false, -9, 6, 3)
	step("a post past Top", s.Post(en(1, top), en(2, -top)), false, -9, 6, 3)
	step("a post past -Top", s.Post(en(0, -top), en(2, top-3), en(1, 3)), false, -9, 6, 3)
	step("a post to no account", s.Post(en(0, 1), en(1, 1), en(3, -2)), false, -9, 6, 3)
	step("the first post again", s.Move(0, 1, 5), true, -14, 11, 3)
	if none := sheet.New(0); none.Post() || none.Post(en(0, 0)) || none.Move(0, 0, 0) || none.Count() != 0 || len(none.Balances()) != 0 {
		t.Error("a sheet without accounts")
	}
}

// draws are numbers that look like chance and are the same in each run.
type draws uint64

// below is a number from 0 to below n.
func (d *draws) below(n int) int {
	*d = *d*6364136223846793005 + 1442695040888963407
	return int(uint64(*d) >> 33 % uint64(n))
}

// amount is one near 0, or near an end of what may be, or past it.
func (d *draws) amount() int {
	near := d.below(7) - 3
	switch d.below(8) {
	case 0:
		return top + near
	case 1:
		return -top + near
	case 2:
		return top/2 + near
	case 3:
		return -top/2 + near
	}
	return near
}

// entries are ones that mostly come out even, in some order, of accounts that
// mostly are there.
func (d *draws) entries(accounts int) []sheet.Entry {
	var l []sheet.Entry
	for range d.below(9) {
		n := d.amount()
		l = append(l, en(d.below(accounts), n), en(d.below(accounts), -n))
	}
	if d.below(8) == 0 {
		l = append(l, en(d.below(accounts+3)-1, d.below(3)-1))
	}
	for i := range l {
		other := d.below(i + 1)
		l[i], l[other] = l[other], l[i]
	}
	return l
}

// P7.1 to P7.4: any posts and moves, held against ones with numbers without
// end; all balances together are 0 behind each.
func TestAnyPosts(t *testing.T) {
	d := draws(7)
	posted, refused := 0, 0
	for round := range 300 {
		accounts := []int{1, 2, 3, 5, 64}[round%5]
		s, m := sheet.New(accounts), newModel(accounts)
		for range 60 {
			var got, want bool
			if d.below(3) == 0 {
				from, to, amount := d.below(accounts+2)-1, d.below(accounts+2)-1, d.amount()
				got, want = s.Move(from, to, amount), m.move(from, to, amount)
			} else {
				l := d.entries(accounts)
				got, want = s.Post(l...), m.post(l)
			}
			if want {
				posted++
			} else {
				refused++
			}
			balances := s.Balances()
			if got != want || !slices.Equal(balances, m.told()) || s.Count() != m.count {
				t.Fatalf("round %d: %v, %v, %d; want %v, %v, %d", round, got, balances, s.Count(), want, m.told(), m.count)
			}
			if together(balances).Sign() != 0 {
				t.Fatalf("round %d: %v is not 0 together", round, balances)
			}
		}
	}
	if posted < 1000 || refused < 1000 {
		t.Error("the draws don't tell much:", posted, refused)
	}
}

// P7.4: all balances together are 0 where their sum leaves an int on the way.
func TestTogetherAtTheEnds(t *testing.T) {
	s := sheet.New(most)
	for i := range most / 2 {
		if !s.Move(i, most-1-i, top) {
			t.Error("Move", i)
		}
	}
	want := slices.Concat(slices.Repeat([]int{-top}, most/2), slices.Repeat([]int{top}, most/2))
	holds(t, "all at an end", s, most/2, want...)
	if together(s.Balances()).Sign() != 0 {
		t.Error("together", together(s.Balances()))
	}
	for i := range most {
		for _, other := range []int{0, most - 1} {
			if i != other && s.Post(en(i, want[i]/top), en(other, -want[i]/top)) {
				t.Error("past an end", i, other)
			}
		}
	}
	holds(t, "behind the refused ones", s, most/2, want...)
}

// P7.4: posts in another order come to the same, if all of them are true.
func TestPostsInAnotherOrder(t *testing.T) {
	posts := [][]sheet.Entry{
		{en(0, -top), en(1, top)},
		{en(1, -5), en(2, 5)},
		{en(2, -top), en(0, top)},
		{en(0, 3), en(1, -7), en(2, 4)},
		{en(1, 0)},
	}
	m := newModel(3)
	for _, l := range posts {
		if !m.post(l) {
			t.Fatal("the posts aren't all true in their own order")
		}
	}
	alike, apart := 0, 0
	orders(posts, func(turned [][]sheet.Entry) {
		s, all := sheet.New(3), true
		for _, l := range turned {
			all = s.Post(l...) && all
		}
		if !all {
			apart++
			return
		}
		alike++
		if !slices.Equal(s.Balances(), m.told()) || s.Count() != len(posts) {
			t.Errorf("%v: %v, %d; want %v", turned, s.Balances(), s.Count(), m.told())
		}
	})
	if alike < 2 || apart == 0 {
		t.Error("the orders don't tell much:", alike, apart)
	}
}

// What is handed in stays as it was, its spare room too, and isn't kept.
func TestWhatIsHandedIn(t *testing.T) {
	for _, start := range [][]sheet.Entry{
		{}, amounts(0), amounts(5), amounts(-5, 5), {en(2, 1), en(0, -4), en(2, 3)}, {en(0, 1), en(9, -1)},
		amounts(top+1, -1), many(64, 0, 0), many(65, 0, 0), many(16, 0, top),
	} {
		whole := append(slices.Clone(start), en(91, 92), en(93, 94))
		before := slices.Clone(whole)
		l := whole[:len(start)]
		s := sheet.New(3)
		sheet.Net(l...)
		s.Post(l...)
		if !slices.Equal(whole, before) {
			t.Errorf("%v: turned to %v", before, whole)
		}
		balances, count := s.Balances(), s.Count()
		clear(whole[:cap(whole)])
		holds(t, "behind a turned list", s, count, balances...)
	}
}

// P7.3: what Balances tells is the caller's own, its spare room too.
func TestBalancesAreNewMemory(t *testing.T) {
	for _, start := range [][]int{{0}, {-5, 5}, {-5, 3, 2}, slices.Repeat([]int{1, -1}, most/2)} {
		s := with(t, start...)
		first, second := s.Balances(), s.Balances()
		spare := first[:cap(first)]
		for i := range spare {
			spare[i] = 77
		}
		if !slices.Equal(second, start) {
			t.Error("two answers share memory", second)
		}
		holds(t, "behind a turned answer", s, 1, start...)
		if !s.Move(0, 0, 1) || !s.Move(0, len(start)-1, 2) {
			t.Error("Move behind a turned answer")
		}
		if !slices.Equal(second, start) {
			t.Error("an answer hangs on its sheet still", second)
		}
	}
}
