package deal_test

import (
	"math"
	"math/big"
	"slices"
	"testing"

	"cascade/api"
	"cascade/deal"
)

const (
	maxCents    = api.MaxCents
	maxLoans    = api.MaxLoans
	maxTranches = api.MaxTranches
	maxRanks    = api.MaxRanks
	maxSteps    = api.MaxSteps
	maxRate     = api.MaxRate
	maxTest     = api.MaxTest
)

// edges are the numbers around which a promise may break.
var edges = []int{
	math.MinInt, math.MinInt + 1, -maxCents - 1, -maxCents, -2, -1,
	0, 1, 2, 3, 6, 7, 8, 9, 11, 12, 13, 15, 16, 17, 63, 64, 65,
	599, 600, 601, 4999, 5000, 5001, 8999, 9000, 9001, 9999, 10000, 10001,
	99999, 100000, 100001, 1 << 32, maxCents - 1, maxCents, maxCents + 1,
	1<<60 - 1, 1 << 60, 1<<60 + 1, 1 << 62, math.MaxInt - 1, math.MaxInt,
}

// number is a number of a deal that has bounds of its own.
type number struct {
	name        string
	of          func(*api.Deal) *int
	least, most int
}

// numbers are those that a deal has beside its lists.
var numbers = []number{
	{"Year", func(d *api.Deal) *int { return &d.Year }, 1, api.MaxYear},
	{"Month", func(d *api.Deal) *int { return &d.Month }, 1, 12},
	{"Basis", func(d *api.Deal) *int { return &d.Basis }, 0, 2},
	{"Fee", func(d *api.Deal) *int { return &d.Fee }, 0, maxRate},
	{"Reserve", func(d *api.Deal) *int { return &d.Reserve }, 0, maxCents},
	{"Target", func(d *api.Deal) *int { return &d.Target }, 0, api.Whole},
	{"Advance", func(d *api.Deal) *int { return &d.Advance }, 0, maxCents},
	{"Cure", func(d *api.Deal) *int { return &d.Cure }, 0, api.MaxPeriods},
	{"Oc", func(d *api.Deal) *int { return &d.Tests.Oc }, 0, maxTest},
	{"Ic", func(d *api.Deal) *int { return &d.Tests.Ic }, 0, maxTest},
	{"Late", func(d *api.Deal) *int { return &d.Tests.Late }, 0, maxTest},
	{"Loss", func(d *api.Deal) *int { return &d.Tests.Loss }, 0, maxTest},
	{"Clean", func(d *api.Deal) *int { return &d.Tests.Clean }, 0, maxTest},
}

// ofNote are those that a note has, but its Original.
var ofNote = []struct {
	name        string
	of          func(*api.Terms) *int
	least, most int
}{
	{"Rank", func(n *api.Terms) *int { return &n.Rank }, 0, maxRanks - 1},
	{"Rate", func(n *api.Terms) *int { return &n.Rate }, 0, maxRate},
}

// plain is the deal of the chapter's run: one loan of 100, one note of 100,
// each mode SInterest 0, STurbo.
func plain() api.Deal {
	d := api.Deal{
		Year: 2024, Month: 1,
		Loans: []api.Loan{{Id: 1, Balance: 100}},
		Notes: []api.Terms{{Original: 100}},
	}
	for mode := range d.Steps {
		d.Steps[mode] = []api.Step{{Kind: api.SInterest}, {Kind: api.STurbo}}
	}
	return d
}

// rich is a right deal with something in each field: 600 of loans, 450 of
// notes, and no two lists alike.
func rich() api.Deal {
	return api.Deal{
		Year: 2031, Month: 7, Basis: api.BAct360,
		Loans: []api.Loan{{Id: 3, Balance: 300}, {Id: 8, Balance: 0}, {Id: 9, Balance: 300}},
		Notes: []api.Terms{
			{Rank: 0, Original: 250, Rate: 300}, {Rank: 2, Original: 150, Rate: 450}, {Rank: 2, Original: 50, Rate: 0},
		},
		Fee: 25, Reserve: 40, Target: 500, Advance: 60, Cure: 2,
		Tests: api.Tests{Oc: 10500, Ic: 12000, Late: 800, Loss: 300, Clean: 1000},
		Steps: [api.Modes][]api.Step{
			{{Kind: api.SFee}, {Kind: api.SInterest}, {Kind: api.SInterest, Rank: 2}, {Kind: api.SPrincipal}},
			{{Kind: api.SInterest}, {Kind: api.STopUp}, {Kind: api.STurbo}},
			{{Kind: api.STurbo}},
		},
	}
}

// made is one thing for each of l, from its place and its number.
func made[T any](l []int, one func(i, n int) T) []T {
	things := make([]T, len(l))
	for i, n := range l {
		things[i] = one(i, n)
	}
	return things
}

// loans are count ones of such a Balance, with Ids that leave room between
// them.
func loans(count, balance int) []api.Loan {
	return made(make([]int, count), func(i, _ int) api.Loan { return api.Loan{Id: 3 + 2*i, Balance: balance} })
}

// notes are count ones of such an Original.
func notes(count, original int) []api.Terms {
	return made(make([]int, count), func(i, _ int) api.Terms {
		return api.Terms{Rank: i % maxRanks, Original: original, Rate: 10 * i}
	})
}

// withIds are loans of these Ids, of 100 each.
func withIds(ids ...int) []api.Loan {
	return made(ids, func(_, id int) api.Loan { return api.Loan{Id: id, Balance: 100} })
}

// balances are loans of these Balances.
func balances(l ...int) []api.Loan {
	return made(l, func(i, balance int) api.Loan { return api.Loan{Id: i + 1, Balance: balance} })
}

// originals are notes of these Originals.
func originals(l ...int) []api.Terms {
	return made(l, func(_, original int) api.Terms { return api.Terms{Original: original} })
}

// kinds are steps of these Kinds, with Rank 0.
func kinds(l ...int) []api.Step {
	return made(l, func(_, kind int) api.Step { return api.Step{Kind: kind} })
}

// lent is a plain deal of these loans, with a note of 1.
func lent(l []api.Loan) api.Deal {
	d := plain()
	d.Loans, d.Notes = l, originals(1)
	return d
}

// issued is a plain deal of these notes, and of MaxCents of loans.
func issued(l []api.Terms) api.Deal {
	d := plain()
	d.Loans, d.Notes = balances(maxCents), l
	return d
}

// every is each step that there is.
func every() []api.Step {
	var l []api.Step
	for kind := api.SFee; kind <= api.STurbo; kind++ {
		l = append(l, api.Step{Kind: kind})
	}
	for rank := 1; rank < maxRanks; rank++ {
		l = append(l, api.Step{Kind: api.SInterest, Rank: rank})
	}
	return l
}

// same tells whether two deals are the same, as lists nil and empty are.
func same(a, b api.Deal) bool {
	for mode := range a.Steps {
		if !slices.Equal(a.Steps[mode], b.Steps[mode]) {
			return false
		}
	}
	return a.Year == b.Year && a.Month == b.Month && a.Basis == b.Basis &&
		slices.Equal(a.Loans, b.Loans) && slices.Equal(a.Notes, b.Notes) &&
		a.Fee == b.Fee && a.Reserve == b.Reserve && a.Target == b.Target &&
		a.Advance == b.Advance && a.Cure == b.Cure && a.Tests == b.Tests
}

// twin is the same deal in memory of its own, made without the package.
func twin(d api.Deal) api.Deal {
	d.Loans = append([]api.Loan{}, d.Loans...)
	d.Notes = append([]api.Terms{}, d.Notes...)
	for mode := range d.Steps {
		d.Steps[mode] = append([]api.Step{}, d.Steps[mode]...)
	}
	return d
}

// says checks all that is told of a deal: whether it is right, and its sums;
// and that it stays as it was.
func says(t *testing.T, name string, d api.Deal, want bool) {
	t.Helper()
	before := twin(d)
	pool, notes := 0, 0
	if want {
		for _, l := range d.Loans {
			pool += l.Balance
		}
		for _, n := range d.Notes {
			notes += n.Original
		}
	}
	if got := deal.Right(d); got != want {
		t.Errorf("%s: Right = %v", name, got)
	}
	if got := deal.Pool(d); got != pool {
		t.Errorf("%s: Pool = %d; want %d", name, got, pool)
	}
	if got := deal.Notes(d); got != notes {
		t.Errorf("%s: Notes = %d; want %d", name, got, notes)
	}
	if got := deal.Copy(d); !same(got, before) {
		t.Errorf("%s: Copy = %v; want %v", name, got, before)
	}
	if !same(d, before) {
		t.Errorf("%s: turned from %v to %v", name, before, d)
	}
}

// saysOfSteps checks a list of steps, by itself and as that of each mode.
func saysOfSteps(t *testing.T, name string, l []api.Step, want bool) {
	t.Helper()
	before := slices.Clone(l)
	if got := deal.Steps(l...); got != want {
		t.Errorf("%s: Steps = %v", name, got)
	}
	for mode := range api.Modes {
		for _, d := range []api.Deal{plain(), rich()} {
			d.Steps[mode] = l
			says(t, name, d, want)
		}
	}
	if !slices.Equal(l, before) {
		t.Errorf("%s: turned from %v to %v", name, before, l)
	}
}

// The chapter's run.
func TestRun(t *testing.T) {
	d := plain()
	says(t, "a note of 100", d, true)
	d.Notes[0].Original = 101
	says(t, "a note of 101", d, false)
}

// P11.1: each number that a deal has beside its lists, alone: both bounds, one
// past each, and up to the ends of int.
func TestNumbers(t *testing.T) {
	says(t, "rich", rich(), true)
	for _, f := range numbers {
		for _, n := range append([]int{f.least - 1, f.least, f.least + 1, f.most - 1, f.most, f.most + 1}, edges...) {
			for _, d := range []api.Deal{plain(), rich()} {
				*f.of(&d) = n
				says(t, f.name, d, f.least <= n && n <= f.most)
			}
		}
	}
}

// P11.1: a number's bounds don't hang on what the others are.
func TestNumbersBesideEachOther(t *testing.T) {
	for i, f := range numbers {
		for _, n := range []int{f.least - 1, f.least, f.most, f.most + 1} {
			for _, other := range numbers[i+1:] {
				for _, m := range []int{other.least - 1, other.least, other.most, other.most + 1} {
					d := rich()
					*f.of(&d), *other.of(&d) = n, m
					want := f.least <= n && n <= f.most && other.least <= m && m <= other.most
					says(t, f.name+", "+other.name, d, want)
				}
			}
		}
	}
	least, most := rich(), rich()
	for _, f := range numbers {
		*f.of(&least), *f.of(&most) = f.least, f.most
	}
	says(t, "the least of each", least, true)
	says(t, "the most of each", most, true)
}

// P11.1: how many loans there may be.
func TestLoanCounts(t *testing.T) {
	says(t, "nil loans", lent(nil), false)
	says(t, "empty loans", lent([]api.Loan{}), false)
	for count := range 2*maxLoans + 3 {
		want := 1 <= count && count <= maxLoans
		says(t, "loans of 0 but one", lent(append(loans(count, 0), api.Loan{Id: 5000, Balance: 1})), count < maxLoans)
		says(t, "loans of 5", lent(loans(count, 5)), want)
		says(t, "loans of as much as they may be", lent(loans(count, maxCents/maxLoans)), want)
	}
	says(t, "10000 loans", lent(loans(10000, 1)), false)
	// What lies behind the length is no loan.
	long := loans(maxLoans+1, 5)
	says(t, "MaxLoans with one behind them", lent(long[:maxLoans]), true)
	says(t, "none with one behind it", lent(long[:0]), false)
	spoilt := append(loans(3, 5), api.Loan{Id: -1, Balance: -1})
	says(t, "three with a wrong one behind them", lent(spoilt[:3]), true)
}

// P11.1: Ids rise, from 1 on.
func TestIds(t *testing.T) {
	for _, c := range []struct {
		ids  []int
		want bool
	}{
		{[]int{1}, true},
		{[]int{2}, true},
		{[]int{0}, false},
		{[]int{-1}, false},
		{[]int{math.MaxInt}, true},
		{[]int{math.MinInt}, false},
		{[]int{1, 2}, true},
		{[]int{1, 3}, true},
		{[]int{0, 1}, false},
		{[]int{-1, 1}, false},
		{[]int{math.MinInt, 1}, false},
		{[]int{1, 1}, false},
		{[]int{2, 1}, false},
		{[]int{1, 0}, false},
		{[]int{1, -1}, false},
		{[]int{1, math.MinInt}, false},
		{[]int{1, math.MaxInt}, true},
		{[]int{math.MaxInt - 1, math.MaxInt}, true},
		{[]int{math.MaxInt, math.MaxInt}, false},
		{[]int{math.MaxInt, math.MinInt}, false},
		{[]int{1, 2, 3}, true},
		{[]int{1, 3, 2}, false},
		{[]int{2, 1, 3}, false},
		{[]int{1, 1, 2}, false},
		{[]int{1, 2, 2}, false},
		{[]int{1, 2, 1}, false},
		{[]int{5, 100, 101, 5000, 1 << 50}, true},
		// Each is held against the one ahead, not against the first one.
		{[]int{1, 100, 99, 101}, false},
		{[]int{1, 100, 2, 3, 4}, false},
	} {
		says(t, "Ids", lent(withIds(c.ids...)), c.want)
	}
}

// P11.1: an Id the same as the one ahead, one less and one more, and each
// edge, at every place of few loans and of many.
func TestIdsAtEachPlace(t *testing.T) {
	for _, count := range []int{1, 2, 3, 7, maxLoans - 1, maxLoans} {
		for at := range count {
			least, most := 1, math.MaxInt
			if at > 0 {
				least = loans(count, 1)[at-1].Id + 1
			}
			if at < count-1 {
				most = loans(count, 1)[at+1].Id - 1
			}
			for _, id := range append([]int{least - 2, least - 1, least, least + 1, most - 1, most}, edges...) {
				d := lent(loans(count, 1))
				d.Loans[at].Id = id
				says(t, "Id", d, least <= id && id <= most)
			}
		}
	}
}

// P11.1: Balances from 0 on, that are at most MaxCents together.
func TestBalances(t *testing.T) {
	for _, c := range []struct {
		name string
		l    []int
		want bool
	}{
		{"one", []int{1}, true},
		{"0 and one", []int{0, 1}, true},
		{"one and 0", []int{1, 0}, true},
		{"MaxCents of one", []int{maxCents}, true},
		{"MaxCents and 0", []int{maxCents, 0}, true},
		{"one cent more of one", []int{maxCents + 1}, false},
		{"MaxCents of two", []int{maxCents - 1, 1}, true},
		{"one cent more of two", []int{maxCents - 1, 2}, false},
		{"one cent more, each below it", []int{1, maxCents}, false},
		{"MaxCents of three", []int{1, maxCents - 3, 2}, true},
		{"one cent more of three", []int{1, maxCents - 3, 3}, false},
		{"each MaxCents", []int{maxCents, maxCents}, false},
		{"below 0", []int{-1}, false},
		{"below 0, and enough", []int{-1, 100}, false},
		{"enough, and below 0", []int{100, -1}, false},
		{"below 0 in between", []int{50, -1, 50}, false},
		{"what is too much made good by what is below 0", []int{maxCents, 5, -5}, false},
		{"Top", []int{1 << 60}, false},
		{"the end of int", []int{math.MaxInt}, false},
		{"the other end of int", []int{math.MinInt}, false},
		{"both ends of int and two", []int{math.MaxInt, math.MinInt, 2}, false},
		{"that wraps round to 1", []int{math.MaxInt, math.MaxInt, 3}, false},
		{"that wraps round to 100", []int{1 << 62, 1 << 62, 1 << 62, 1 << 62, 100}, false},
		{"16 of Top that wrap round to 100", append(slices.Repeat([]int{1 << 60}, 16), 100), false},
		{"Top less one, often", slices.Repeat([]int{1<<60 - 1}, maxLoans), false},
		{"the end of int, often", slices.Repeat([]int{math.MaxInt}, maxLoans), false},
		{"the other end of int, often", slices.Repeat([]int{math.MinInt}, maxLoans), false},
		{"MaxCents, often", slices.Repeat([]int{maxCents}, maxLoans), false},
		{"MaxCents of MaxLoans", slices.Repeat([]int{maxCents / maxLoans}, maxLoans), true},
		{"one cent more of MaxLoans", append(slices.Repeat([]int{maxCents / maxLoans}, maxLoans-1), maxCents/maxLoans+1), false},
	} {
		says(t, c.name, lent(balances(c.l...)), c.want)
	}
	// A pool of nothing leaves no room for a note.
	says(t, "Balances of 0", lent(balances(0)), false)
	says(t, "two Balances of 0", lent(balances(0, 0)), false)
}

// P11.1: each edge as a Balance, at every place of few loans and of many.
func TestBalancesAtEachPlace(t *testing.T) {
	for _, count := range []int{1, 2, 3, maxLoans - 1, maxLoans} {
		rest := 7 * (count - 1)
		for at := range count {
			for _, n := range append([]int{maxCents - rest - 1, maxCents - rest, maxCents - rest + 1}, edges...) {
				d := lent(loans(count, 7))
				d.Loans[at].Balance = n
				says(t, "Balance", d, 0 <= n && n <= maxCents-rest && n+rest > 0)
			}
		}
	}
}

// P11.1: how many notes there may be.
func TestNoteCounts(t *testing.T) {
	says(t, "nil notes", issued(nil), false)
	says(t, "empty notes", issued([]api.Terms{}), false)
	for count := range 3*maxTranches + 1 {
		want := 1 <= count && count <= maxTranches
		says(t, "notes of 1", issued(notes(count, 1)), want)
		says(t, "notes of as much as they may be", issued(notes(count, maxCents/maxTranches)), want)
	}
	says(t, "10000 notes", issued(notes(10000, 1)), false)
	// What lies behind the length is no note.
	long := notes(maxTranches+1, 5)
	says(t, "MaxTranches with one behind them", issued(long[:maxTranches]), true)
	says(t, "none with one behind it", issued(long[:0]), false)
	spoilt := append(notes(3, 5), api.Terms{Rank: -1})
	says(t, "three with a wrong one behind them", issued(spoilt[:3]), true)
}

// P11.1: a note's Rank and Rate, at every place of few notes and of many.
func TestNotesAtEachPlace(t *testing.T) {
	for _, count := range []int{1, 2, 3, maxTranches} {
		for at := range count {
			for _, f := range ofNote {
				for _, n := range append([]int{f.least - 1, f.least, f.most, f.most + 1}, edges...) {
					d := issued(notes(count, 5))
					*f.of(&d.Notes[at]) = n
					says(t, f.name, d, f.least <= n && n <= f.most)
				}
			}
		}
	}
	// Ranks may be in any order, with gaps, and shared.
	for _, ranks := range [][]int{{0}, {7}, {0, 7}, {7, 0}, {3, 3, 3}, {5, 1, 5, 0}, {7, 6, 5, 4, 3, 2, 1, 0}} {
		l := notes(len(ranks), 5)
		for i, rank := range ranks {
			l[i].Rank = rank
		}
		says(t, "Ranks", issued(l), true)
	}
	says(t, "two that are the same", issued([]api.Terms{{Rank: 1, Original: 5, Rate: 7}, {Rank: 1, Original: 5, Rate: 7}}), true)
}

// P11.1: Originals of 1 or more, that are at most the loans together.
func TestOriginals(t *testing.T) {
	for _, c := range []struct {
		name  string
		lent  []int
		notes []int
		want  bool
	}{
		{"one cent", []int{1}, []int{1}, true},
		{"nothing", []int{1}, []int{0}, false},
		{"nothing of nothing", []int{0}, []int{0}, false},
		{"one cent of nothing", []int{0}, []int{1}, false},
		{"below 0", []int{1}, []int{-1}, false},
		{"below 0 of nothing", []int{0}, []int{-1}, false},
		{"less than the loan", []int{100}, []int{99}, true},
		{"as much as the loan", []int{100}, []int{100}, true},
		{"one cent more than the loan", []int{100}, []int{101}, false},
		{"as much as two loans", []int{60, 40}, []int{100}, true},
		{"one cent more than two loans", []int{60, 40}, []int{101}, false},
		{"two, as much as the loan", []int{100}, []int{60, 40}, true},
		{"two, one cent more than the loan", []int{100}, []int{60, 41}, false},
		{"two, each at most the loan", []int{100}, []int{100, 1}, false},
		{"two, the first more than the first loan", []int{10, 90}, []int{50, 50}, true},
		{"MaxCents", []int{maxCents}, []int{maxCents}, true},
		{"MaxCents and one cent", []int{maxCents}, []int{maxCents, 1}, false},
		{"more than MaxCents in one", []int{maxCents}, []int{maxCents + 1}, false},
		{"nothing beside enough", []int{100}, []int{50, 0}, false},
		{"nothing ahead of enough", []int{100}, []int{0, 50}, false},
		{"what is too much made good by what is below 0", []int{100}, []int{150, -50}, false},
		{"Top", []int{100}, []int{1 << 60}, false},
		{"the end of int", []int{100}, []int{math.MaxInt}, false},
		{"the other end of int", []int{100}, []int{math.MinInt}, false},
		{"that wraps round to 3", []int{100}, []int{math.MaxInt, math.MaxInt, 5}, false},
		{"that wraps round to 4", []int{100}, []int{1 << 62, 1 << 62, 1 << 62, 1 << 62, 4}, false},
		{"that wraps round to 0", []int{100}, slices.Repeat([]int{1 << 61}, maxTranches), false},
		{"the end of int, often", []int{100}, slices.Repeat([]int{math.MaxInt}, maxTranches), false},
		{"MaxTranches, as much as the loan", []int{800}, slices.Repeat([]int{100}, maxTranches), true},
		{"MaxTranches, one cent more", []int{799}, slices.Repeat([]int{100}, maxTranches), false},
		{"loans and notes past an int", []int{math.MaxInt, math.MaxInt}, []int{math.MaxInt}, false},
	} {
		d := plain()
		d.Loans, d.Notes = balances(c.lent...), originals(c.notes...)
		says(t, c.name, d, c.want)
	}
}

// P11.1: each edge as an Original, at every place of few notes and of many.
func TestOriginalsAtEachPlace(t *testing.T) {
	for _, count := range []int{1, 2, 3, maxTranches} {
		rest := 7 * (count - 1)
		for _, all := range []int{100, maxCents} {
			for at := range count {
				for _, n := range append([]int{all - rest - 1, all - rest, all - rest + 1}, edges...) {
					d := issued(notes(count, 7))
					d.Loans = balances(all)
					d.Notes[at].Original = n
					says(t, "Original", d, 1 <= n && n <= all-rest)
				}
			}
		}
	}
}

// P11.1: each mode's list right, and one of them not.
func TestModes(t *testing.T) {
	wrong := [][]api.Step{nil, {}, {{}}, {{Kind: 8}}, {{Kind: api.SFee, Rank: 1}}, kinds(api.SFee, api.SFee)}
	for mode := range api.Modes {
		for _, l := range wrong {
			d := rich()
			d.Steps[mode] = l
			says(t, "one list wrong", d, false)
		}
		// A list is right by itself: whether other modes have such steps is no
		// matter of it.
		d := rich()
		d.Steps[mode] = every()
		says(t, "each step there is", d, true)
		d.Steps = [api.Modes][]api.Step{}
		d.Steps[mode] = kinds(api.STurbo)
		says(t, "one list alone", d, false)
	}
	for _, l := range wrong {
		d := rich()
		for mode := range d.Steps {
			d.Steps[mode] = l
		}
		says(t, "each list wrong", d, false)
	}
	// One list for all modes, one memory, too.
	d := rich()
	l := every()
	d.Steps = [api.Modes][]api.Step{l, l, l}
	says(t, "one list thrice", d, true)
	// Steps may name ranks that no note has.
	d = plain()
	d.Steps[api.Normal] = []api.Step{{Kind: api.SInterest, Rank: 6}}
	says(t, "a rank without a note", d, true)
}

// P11.2: how many steps there may be. None comes twice, and so there are never
// more than 14.
func TestStepCounts(t *testing.T) {
	saysOfSteps(t, "nil", nil, false)
	saysOfSteps(t, "empty", []api.Step{}, false)
	if deal.Steps() {
		t.Error("Steps() of no arguments")
	}
	all := every()
	if len(all) != 14 {
		t.Fatal("there are", len(all))
	}
	for count := 1; count <= len(all); count++ {
		saysOfSteps(t, "the first of all", all[:count], true)
		saysOfSteps(t, "the last of all", all[len(all)-count:], true)
	}
	backward := slices.Clone(all)
	slices.Reverse(backward)
	saysOfSteps(t, "all backward", backward, true)
	for count := len(all) + 1; count <= 2*maxSteps; count++ {
		saysOfSteps(t, "more than there are", append(slices.Clone(all), all...)[:min(count, 2*len(all))], false)
		saysOfSteps(t, "one kind often", slices.Repeat(kinds(api.SFee), count), false)
	}
	for _, count := range []int{maxSteps, maxSteps + 1, 1000, 10000} {
		if deal.Steps(slices.Repeat(kinds(api.SFee), count)...) {
			t.Error("SFee", count, "times")
		}
		ranks := make([]api.Step, count)
		for i := range ranks {
			ranks[i] = api.Step{Kind: api.SInterest, Rank: i}
		}
		if deal.Steps(ranks...) {
			t.Error("ranks up to", count)
		}
	}
	// What lies behind the length is no step.
	saysOfSteps(t, "one with the same behind it", kinds(api.SFee, api.SFee)[:1], true)
	saysOfSteps(t, "none with one behind it", kinds(api.SFee)[:0], false)
}

// P11.2: each Kind with each Rank, alone, and beside right ones at each place.
func TestKindsAndRanks(t *testing.T) {
	ranks := append([]int{-8, -7, 4, 5}, edges...)
	for _, kind := range append([]int{4, 5}, edges...) {
		for _, rank := range ranks {
			want := false
			switch kind {
			case api.SFee, api.SRecoup, api.SPrincipal, api.SProRata, api.STopUp, api.STurbo:
				want = rank == 0
			case api.SInterest:
				want = 0 <= rank && rank <= 7
			}
			step := api.Step{Kind: kind, Rank: rank}
			saysOfSteps(t, "alone", []api.Step{step}, want)
			if want {
				continue
			}
			for at := range 3 {
				l := slices.Insert(kinds(api.SFee, api.STurbo), at, step)
				if deal.Steps(l...) {
					t.Errorf("%v at %d", step, at)
				}
			}
			if long := append(every()[:12], step); deal.Steps(long...) {
				t.Errorf("%v behind twelve", step)
			}
		}
	}
}

// P11.2: one step twice, beside each other and far apart; and one Kind with
// two Ranks.
func TestNoneTwice(t *testing.T) {
	all := every()
	for _, step := range all {
		saysOfSteps(t, "twice and nothing else", []api.Step{step, step}, false)
		saysOfSteps(t, "thrice", []api.Step{step, step, step}, false)
		others := slices.DeleteFunc(slices.Clone(all), func(s api.Step) bool { return s == step })
		saysOfSteps(t, "the others", others, true)
		for first := range len(others) + 1 {
			once := slices.Insert(slices.Clone(others), first, step)
			if !deal.Steps(once...) {
				t.Errorf("%v once, at %d", step, first)
			}
			for second := range len(once) + 1 {
				if deal.Steps(slices.Insert(slices.Clone(once), second, step)...) {
					t.Errorf("%v twice, at %d and %d", step, first, second)
				}
			}
		}
	}
	for a := range maxRanks {
		for b := range maxRanks {
			l := []api.Step{{Kind: api.SInterest, Rank: a}, {Kind: api.STurbo}, {Kind: api.SInterest, Rank: b}}
			saysOfSteps(t, "two interests", l, a != b)
			saysOfSteps(t, "two interests beside each other", []api.Step{l[0], l[2]}, a != b)
		}
	}
}

// P11.3: the sums of right deals.
func TestSums(t *testing.T) {
	for _, c := range []struct {
		name        string
		d           api.Deal
		pool, notes int
	}{
		{"plain", plain(), 100, 100},
		{"rich", rich(), 600, 450},
		{"one cent", lent(balances(1)), 1, 1},
		{"loans without a Balance", lent(balances(0, 5, 0)), 5, 1},
		{"the most loans", lent(loans(maxLoans, maxCents/maxLoans)), maxCents, 1},
		{"the most notes", issued(notes(maxTranches, maxCents/maxTranches)), maxCents, maxCents},
		{"one of the most", issued(originals(maxCents)), maxCents, maxCents},
	} {
		if pool := deal.Pool(c.d); pool != c.pool {
			t.Errorf("%s: Pool = %d; want %d", c.name, pool, c.pool)
		}
		if notes := deal.Notes(c.d); notes != c.notes {
			t.Errorf("%s: Notes = %d; want %d", c.name, notes, c.notes)
		}
	}
}

// P11.3: 0 of deals that aren't right, whatever is wrong.
func TestSumsOfOthers(t *testing.T) {
	for i, spoil := range []func(d *api.Deal){
		func(d *api.Deal) { *d = api.Deal{} },
		func(d *api.Deal) { d.Year = 0 },
		func(d *api.Deal) { d.Fee = -1 },
		func(d *api.Deal) { d.Tests.Clean = maxTest + 1 },
		func(d *api.Deal) { d.Loans = nil },
		func(d *api.Deal) { d.Loans[2].Id = 8 },
		func(d *api.Deal) { d.Loans[1].Balance = -1 },
		func(d *api.Deal) { d.Loans[1].Balance = maxCents },
		func(d *api.Deal) { d.Notes = nil },
		func(d *api.Deal) { d.Notes[2].Original = 0 },
		func(d *api.Deal) { d.Notes[2].Original = 201 },
		func(d *api.Deal) { d.Notes[0].Rank = maxRanks },
		func(d *api.Deal) { d.Steps[api.Default] = nil },
		func(d *api.Deal) { d.Steps[api.Turbo][0].Kind = api.STurbo },
	} {
		d := rich()
		spoil(&d)
		if deal.Right(d) || deal.Pool(d) != 0 || deal.Notes(d) != 0 {
			t.Errorf("%d: %v, %d, %d", i, deal.Right(d), deal.Pool(d), deal.Notes(d))
		}
	}
}

// P11.3: a copy is the same, field by field, of right deals and of others.
func TestCopy(t *testing.T) {
	wrong := api.Deal{
		Year: -1, Month: 99, Basis: math.MinInt, Fee: -3, Reserve: math.MaxInt, Target: -5, Advance: -6, Cure: -7,
		Loans: balances(-1, math.MaxInt), Notes: originals(0, -1),
		Tests: api.Tests{Oc: -1, Ic: -2, Late: -3, Loss: -4, Clean: -5},
		Steps: [api.Modes][]api.Step{kinds(0, 0), nil, kinds(-1)},
	}
	long := api.Deal{Loans: loans(1000, 1), Notes: notes(1000, 1)}
	long.Steps[api.Turbo] = slices.Repeat(kinds(api.SFee), 1000)
	for i, d := range []api.Deal{{}, plain(), rich(), wrong, long} {
		if got := deal.Copy(d); !same(got, d) {
			t.Errorf("%d: %v; want %v", i, got, d)
		}
		if got := deal.Copy(deal.Copy(d)); !same(got, d) {
			t.Errorf("%d: a copy's copy is %v; want %v", i, got, d)
		}
	}
	for _, f := range numbers {
		var d api.Deal
		*f.of(&d) = 77
		if got := deal.Copy(d); !same(got, d) {
			t.Errorf("%s alone: %v", f.name, got)
		}
	}
	empty := api.Deal{Loans: []api.Loan{}, Notes: []api.Terms{}, Steps: [api.Modes][]api.Step{{}, {}, {}}}
	got := deal.Copy(empty)
	if len(got.Loans)+len(got.Notes)+len(got.Steps[0])+len(got.Steps[1])+len(got.Steps[2]) > 0 {
		t.Error("of empty lists", got)
	}
}

// meddles are what may be done to a deal's lists, each list by itself.
var meddles = []func(d *api.Deal){
	func(d *api.Deal) { d.Loans[0].Id = 99 },
	func(d *api.Deal) { d.Loans[len(d.Loans)-1].Balance = 99 },
	func(d *api.Deal) { d.Notes[0] = api.Terms{Rank: 99, Original: 99, Rate: 99} },
	func(d *api.Deal) { d.Notes[len(d.Notes)-1].Rate = 99 },
	func(d *api.Deal) { d.Steps[api.Normal][0] = api.Step{Kind: 99, Rank: 99} },
	func(d *api.Deal) { d.Steps[api.Turbo][0].Kind = 99 },
	func(d *api.Deal) { d.Steps[api.Default][0].Rank = 99 },
	func(d *api.Deal) { d.Steps[api.Normal] = nil },
	func(d *api.Deal) { d.Tests.Oc, d.Year = 99, 99 },
	func(d *api.Deal) { clear(d.Loans); clear(d.Notes) },
	func(d *api.Deal) { slices.Reverse(d.Loans); slices.Reverse(d.Notes) },
}

// P11.3: what is done to one of the two leaves the other.
func TestCopyGoesOnByItself(t *testing.T) {
	for i, meddle := range meddles {
		for _, d := range []api.Deal{plain(), rich()} {
			before := twin(d)
			copied := deal.Copy(d)
			meddle(&copied)
			if !same(d, before) {
				t.Errorf("%d: what is done to the copy turned the deal to %v", i, d)
			}
			copied = deal.Copy(d)
			meddle(&d)
			if !same(copied, before) {
				t.Errorf("%d: what is done to the deal turned the copy to %v", i, copied)
			}
		}
	}
}

// roomy is a deal whose lists have spare room behind them, and what stands in
// that room.
func roomy() (api.Deal, api.Deal) {
	whole := rich()
	whole.Loans = append(whole.Loans, api.Loan{Id: 91, Balance: 92})
	whole.Notes = append(whole.Notes, api.Terms{Rank: 93, Original: 94, Rate: 95})
	for mode := range whole.Steps {
		whole.Steps[mode] = append(whole.Steps[mode], api.Step{Kind: 96, Rank: 97})
	}
	d := whole
	d.Loans = d.Loans[:len(d.Loans)-1]
	d.Notes = d.Notes[:len(d.Notes)-1]
	for mode, l := range d.Steps {
		d.Steps[mode] = l[:len(l)-1]
	}
	return d, whole
}

// grown is a deal with one more on each list, written wherever there is room.
func grown(d api.Deal, by int) api.Deal {
	d.Loans = append(d.Loans, api.Loan{Id: by})
	d.Notes = append(d.Notes, api.Terms{Rank: by})
	for mode, l := range d.Steps {
		d.Steps[mode] = append(l, api.Step{Kind: by})
	}
	return d
}

// R2, R5, P11.3: the spare room behind lists is neither read nor written, and
// a copy's is its own.
func TestSpareRoom(t *testing.T) {
	d, whole := roomy()
	before := twin(whole)
	says(t, "roomy", d, true)
	copied := deal.Copy(d)
	if !same(copied, rich()) {
		t.Error("the room was copied", copied)
	}
	longer := grown(copied, 77)
	if !same(whole, before) {
		t.Error("the copy grew into the deal's room", whole)
	}
	grown(d, 88)
	if !same(copied, rich()) || !same(longer, grown(rich(), 77)) {
		t.Error("the deal grew into the copy's room", longer)
	}
	none, all := roomy()
	none.Loans, none.Notes = none.Loans[:0], none.Notes[:0]
	for mode, l := range none.Steps {
		none.Steps[mode] = l[:0]
	}
	before = twin(all)
	grown(deal.Copy(none), 77)
	if !same(all, before) {
		t.Error("a copy of empty lists grew into the deal's room", all)
	}
}

// P11.3: no two lists of a copy are one, though they were one in the deal.
func TestListsOfACopy(t *testing.T) {
	d := plain()
	l := every()
	d.Steps = [api.Modes][]api.Step{l, l, l[:3]}
	copied := deal.Copy(d)
	copied.Steps[api.Normal][0].Kind = 99
	copied.Steps[api.Turbo][1].Kind = 98
	_ = append(copied.Steps[api.Default], api.Step{Kind: 97})
	want := [api.Modes][]api.Step{every(), every(), every()[:3]}
	want[api.Normal][0].Kind = 99
	want[api.Turbo][1].Kind = 98
	for mode := range want {
		if !slices.Equal(copied.Steps[mode], want[mode]) {
			t.Errorf("mode %d: %v; want %v", mode, copied.Steps[mode], want[mode])
		}
	}
	if !slices.Equal(l, every()) {
		t.Error("the deal's list", l)
	}
}

// inBounds tells whether n is least to most.
func inBounds(n, least, most int) bool { return least <= n && n <= most }

// rightByWords is P11.1 said clause by clause, with sums without end.
func rightByWords(d api.Deal) bool {
	for _, f := range numbers {
		if !inBounds(*f.of(&d), f.least, f.most) {
			return false
		}
	}
	if !inBounds(len(d.Loans), 1, 64) || !inBounds(len(d.Notes), 1, 8) {
		return false
	}
	lent, issued := new(big.Int), new(big.Int)
	for i, l := range d.Loans {
		if l.Id < 1 || l.Balance < 0 || i > 0 && d.Loans[i-1].Id >= l.Id {
			return false
		}
		lent.Add(lent, big.NewInt(int64(l.Balance)))
	}
	for _, n := range d.Notes {
		if n.Original < 1 || !inBounds(n.Rank, 0, 7) || !inBounds(n.Rate, 0, 5000) {
			return false
		}
		issued.Add(issued, big.NewInt(int64(n.Original)))
	}
	for _, l := range d.Steps {
		if !stepsByWords(l) {
			return false
		}
	}
	return lent.Cmp(big.NewInt(maxCents)) <= 0 && issued.Cmp(lent) <= 0
}

// stepsByWords is P11.2 said clause by clause.
func stepsByWords(l []api.Step) bool {
	seen := make(map[api.Step]bool)
	for _, s := range l {
		if !inBounds(s.Kind, 1, 7) || s.Rank != 0 && (s.Kind != 3 || !inBounds(s.Rank, 0, 7)) {
			return false
		}
		seen[s] = true
	}
	return inBounds(len(l), 1, 16) && len(seen) == len(l)
}

// R1: of deals whose numbers are edges, wherever they fall, each call ends,
// and tells what the words say.
func TestAnyNumbers(t *testing.T) {
	for turn := range 3 * len(edges) {
		at := func(n int) int { return edges[(turn*n+n*n)%len(edges)] }
		d := rich()
		for i, f := range numbers {
			if turn%3 == 0 {
				*f.of(&d) = at(i + 1)
			}
		}
		for i := range d.Loans {
			d.Loans[i].Balance = at(i + 2)
			if turn%2 == 0 {
				d.Loans[i].Id = at(i + 3)
			}
		}
		for i := range d.Notes {
			d.Notes[i] = api.Terms{Rank: at(i + 1), Original: at(i + 4), Rate: at(i + 5)}
		}
		for _, l := range d.Steps {
			for i := range l {
				l[i] = api.Step{Kind: at(i + 2), Rank: at(i + 3)}
			}
		}
		says(t, "edges", d, rightByWords(d))
		for mode := range d.Steps {
			if got := deal.Steps(d.Steps[mode]...); got != stepsByWords(d.Steps[mode]) {
				t.Errorf("%v: Steps = %v", d.Steps[mode], got)
			}
		}
	}
	says(t, "nothing", api.Deal{}, false)
}

// P11.1, P11.2: of all lists of two steps, and of small deals, what the words
// say.
func TestByWords(t *testing.T) {
	var few []api.Step
	for kind := -1; kind <= 9; kind++ {
		for rank := -1; rank <= 9; rank++ {
			few = append(few, api.Step{Kind: kind, Rank: rank})
		}
	}
	for _, a := range few {
		for _, b := range few {
			if got := deal.Steps(a, b); got != stepsByWords([]api.Step{a, b}) {
				t.Errorf("%v, %v: Steps = %v", a, b, got)
			}
		}
	}
	small := []int{-1, 0, 1, 2, 3}
	for _, a := range small {
		for _, b := range small {
			for _, c := range small {
				for _, e := range small {
					d := plain()
					d.Loans, d.Notes = balances(a, b), originals(c, e)
					says(t, "small amounts", d, rightByWords(d))
					d.Loans = []api.Loan{{Id: a, Balance: 2}, {Id: b, Balance: c + 1}}
					d.Notes = originals(e)
					says(t, "small Ids", d, rightByWords(d))
				}
			}
		}
	}
}
