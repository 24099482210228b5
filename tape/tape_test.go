package tape_test

import (
	"math"
	"slices"
	"testing"

	"cascade/api"
	"cascade/tape"
)

const (
	maxCents = api.MaxCents
	maxLate  = api.MaxLate
	maxLoans = api.MaxLoans
)

// edges are the numbers around which a promise may break.
var edges = []int{
	math.MinInt, math.MinInt + 1, -maxCents - 1, -maxCents, -maxLate, -2, -1,
	0, 1, 2, maxLate - 1, maxLate, maxLate + 1, 63, 64, 65, 1 << 32,
	maxCents - 1, maxCents, maxCents + 1, 1 << 60, math.MaxInt - 1, math.MaxInt,
}

// field is a number of a line that has bounds.
type field struct {
	name string
	of   func(*api.Line) *int
	most int
}

// fields are all of them but the Id.
var fields = []field{
	{"Principal", func(l *api.Line) *int { return &l.Principal }, maxCents},
	{"Prepaid", func(l *api.Line) *int { return &l.Prepaid }, maxCents},
	{"Interest", func(l *api.Line) *int { return &l.Interest }, maxCents},
	{"Recov", func(l *api.Line) *int { return &l.Recov }, maxCents},
	{"Late", func(l *api.Line) *int { return &l.Late }, maxLate},
}

// lines are count right ones, all of them different, with Ids that leave room
// between them.
func lines(count int) []api.Line {
	l := make([]api.Line, count)
	for i := range l {
		l[i] = api.Line{
			Id: 3 + 2*i, Principal: 5 + i, Prepaid: 7 * i, Interest: 2 + i*i, Recov: i % 4 * 1000,
			Late: i % (maxLate + 1), Default: i%3 == 1,
		}
	}
	return l
}

// full are count lines with the most in each field.
func full(count int) []api.Line {
	l := make([]api.Line, count)
	for i := range l {
		l[i] = api.Line{
			Id: i + 1, Principal: maxCents, Prepaid: maxCents, Interest: maxCents, Recov: maxCents,
			Late: maxLate, Default: true,
		}
	}
	return l
}

// withIds are lines of these Ids and nothing else.
func withIds(ids ...int) []api.Line {
	l := make([]api.Line, len(ids))
	for i, id := range ids {
		l[i].Id = id
	}
	return l
}

// run is the tape of the chapter's run.
func run() []api.Line {
	return []api.Line{
		{Id: 1, Principal: 5, Prepaid: 2, Interest: 3},
		{Id: 4, Interest: 1, Recov: 7, Late: 2, Default: true},
	}
}

// The chapter's run.
func TestRun(t *testing.T) {
	l := run()
	if !tape.Right(l) {
		t.Error("Right")
	}
	total := tape.Sum(l...)
	if total != (tape.Total{Principal: 5, Prepaid: 2, Interest: 4, Recov: 7, Defaults: 1}) {
		t.Error("Sum", total)
	}
	if total.Cash() != 18 {
		t.Error("Cash", total.Cash())
	}
}

// P8.1: how many lines there may be.
func TestRightCounts(t *testing.T) {
	if !tape.Right(nil) || !tape.Right([]api.Line{}) {
		t.Error("no line")
	}
	for count := range 2*maxLoans + 3 {
		want := count <= maxLoans
		if got := tape.Right(lines(count)); got != want {
			t.Errorf("%d lines: %v", count, got)
		}
		if got := tape.Right(full(count)); got != want {
			t.Errorf("%d lines with the most in each field: %v", count, got)
		}
	}
	if tape.Right(lines(10000)) {
		t.Error("10000 lines")
	}
	// What lies behind the length is no line.
	if long := lines(maxLoans + 1); !tape.Right(long[:maxLoans]) {
		t.Error("MaxLoans lines with one behind them")
	}
	if spoilt := append(lines(3), api.Line{Id: -1}); !tape.Right(spoilt[:3]) {
		t.Error("three lines with a wrong one behind them")
	}
}

// P8.1: Ids are 1 or more, and rise.
func TestRightIds(t *testing.T) {
	for _, c := range []struct {
		ids  []int
		want bool
	}{
		{[]int{1}, true},
		{[]int{2}, true},
		{[]int{0}, false},
		{[]int{-1}, false},
		{[]int{math.MaxInt}, true},
		{[]int{math.MinInt}, false},
		{[]int{1, 2}, true},
		{[]int{1, 3}, true},
		{[]int{1, 1}, false},
		{[]int{2, 1}, false},
		{[]int{0, 1}, false},
		{[]int{-1, 0}, false},
		{[]int{-1, 1}, false},
		{[]int{math.MinInt, 1}, false},
		{[]int{1, 0}, false},
		{[]int{1, -1}, false},
		{[]int{1, math.MinInt}, false},
		{[]int{1, math.MaxInt}, true},
		{[]int{math.MaxInt - 1, math.MaxInt}, true},
		{[]int{math.MaxInt, math.MaxInt}, false},
		{[]int{math.MaxInt, math.MinInt}, false},
		{[]int{math.MaxInt, 1}, false},
		{[]int{math.MaxInt, math.MaxInt - 1}, false},
		{[]int{1, 2, 3}, true},
		{[]int{1, 3, 2}, false},
		{[]int{2, 1, 3}, false},
		{[]int{3, 1, 2}, false},
		{[]int{1, 3, 3}, false},
		{[]int{2, 2, 3}, false},
		{[]int{1, 100, 101, 5000, 1 << 40}, true},
		// The Ids are held against the one ahead, not against the first one.
		{[]int{1, 100, 99, 101}, false},
		{[]int{1, 100, 2, 3, 4}, false},
	} {
		if got := tape.Right(withIds(c.ids...)); got != c.want {
			t.Errorf("Ids %v: %v", c.ids, got)
		}
	}
}

// P8.1: an Id the same as the one ahead, one less and one more, and each edge,
// at every place of tapes short and long.
func TestRightIdsAtEachPlace(t *testing.T) {
	for _, count := range []int{1, 2, 3, 7, maxLoans - 1, maxLoans} {
		for at := range count {
			least, most := 1, math.MaxInt
			if at > 0 {
				least = lines(count)[at-1].Id + 1
			}
			if at < count-1 {
				most = lines(count)[at+1].Id - 1
			}
			for _, id := range append([]int{least - 2, least - 1, least, least + 1, most - 1, most}, edges...) {
				l := lines(count)
				l[at].Id = id
				if got := tape.Right(l); got != (least <= id && id <= most) {
					t.Errorf("%d lines, %d at place %d: %v", count, id, at, got)
				}
			}
		}
	}
}

// P8.1: each field's bounds, at every place of tapes short and long.
func TestRightFieldsAtEachPlace(t *testing.T) {
	for _, count := range []int{1, 2, 3, 7, maxLoans - 1, maxLoans} {
		for at := range count {
			for _, f := range fields {
				for _, n := range edges {
					l := lines(count)
					*f.of(&l[at]) = n
					if got := tape.Right(l); got != (0 <= n && n <= f.most) {
						t.Errorf("%d lines, %s %d at place %d: %v", count, f.name, n, at, got)
					}
				}
			}
		}
	}
}

// P8.1: a field's bounds don't hang on what the others are.
func TestRightFieldsBesideEachOther(t *testing.T) {
	for _, f := range fields {
		for _, n := range []int{-1, 0, f.most, f.most + 1} {
			for _, other := range fields {
				if other.name == f.name {
					continue
				}
				for _, m := range []int{-1, 0, other.most, other.most + 1} {
					l := lines(3)
					*f.of(&l[1]), *other.of(&l[1]) = n, m
					want := 0 <= n && n <= f.most && 0 <= m && m <= other.most
					if got := tape.Right(l); got != want {
						t.Errorf("%s %d, %s %d: %v", f.name, n, other.name, m, got)
					}
				}
			}
		}
	}
	// Amounts have bounds one by one: what they come to together has none.
	if !tape.Right(full(1)) {
		t.Error("the most in each field of one line")
	}
}

// P8.1: Default or not is no matter of it.
func TestRightOfDefaults(t *testing.T) {
	for _, count := range []int{1, 3, maxLoans, maxLoans + 1} {
		for _, wrong := range []bool{false, true} {
			for at := -1; at < count; at++ {
				l := lines(count)
				if wrong {
					l[count-1].Recov = -1
				}
				for i := range l {
					l[i].Default = i == at
				}
				if got := tape.Right(l); got != (count <= maxLoans && !wrong) {
					t.Errorf("%d lines, Default at %d, a wrong one: %v: %v", count, at, wrong, got)
				}
			}
		}
	}
}

// P8.2: sums of no line, of one, of several.
func TestSum(t *testing.T) {
	for _, c := range []struct {
		name string
		l    []api.Line
		want tape.Total
		cash int
	}{
		{"nil", nil, tape.Total{}, 0},
		{"empty", []api.Line{}, tape.Total{}, 0},
		{"an Id alone", withIds(9), tape.Total{}, 0},
		{"lateness alone", []api.Line{{Id: 9, Late: maxLate}}, tape.Total{}, 0},
		{"Principal alone", []api.Line{{Id: 9, Principal: 4}}, tape.Total{Principal: 4}, 4},
		{"Prepaid alone", []api.Line{{Id: 9, Prepaid: 4}}, tape.Total{Prepaid: 4}, 4},
		{"Interest alone", []api.Line{{Id: 9, Interest: 4}}, tape.Total{Interest: 4}, 4},
		{"Recov alone", []api.Line{{Id: 9, Recov: 4}}, tape.Total{Recov: 4}, 4},
		{"Default alone", []api.Line{{Id: 9, Default: true}}, tape.Total{Defaults: 1}, 0},
		{
			"one", []api.Line{{Id: 8, Principal: 1, Prepaid: 20, Interest: 300, Recov: 4000, Late: 5, Default: true}},
			tape.Total{Principal: 1, Prepaid: 20, Interest: 300, Recov: 4000, Defaults: 1}, 4321,
		},
		{
			"several", []api.Line{
				{Id: 1, Principal: 1, Prepaid: 20, Interest: 300, Recov: 4000},
				{Id: 2, Principal: 50000, Recov: 2, Late: 12, Default: true},
				{Id: 3, Interest: 7, Default: true},
				{Id: 4},
			},
			tape.Total{Principal: 50001, Prepaid: 20, Interest: 307, Recov: 4002, Defaults: 2}, 54330,
		},
		{
			"the most of one", full(1),
			tape.Total{Principal: 1 << 40, Prepaid: 1 << 40, Interest: 1 << 40, Recov: 1 << 40, Defaults: 1}, 1 << 42,
		},
		{
			"the most of MaxLoans", full(maxLoans),
			tape.Total{Principal: 1 << 46, Prepaid: 1 << 46, Interest: 1 << 46, Recov: 1 << 46, Defaults: 64}, 1 << 48,
		},
	} {
		if !tape.Right(c.l) {
			t.Errorf("%s: the tape isn't right", c.name)
		}
		got := tape.Sum(c.l...)
		if got != c.want {
			t.Errorf("%s: Sum = %v; want %v", c.name, got, c.want)
		}
		if got.Cash() != c.cash {
			t.Errorf("%s: Cash = %d; want %d", c.name, got.Cash(), c.cash)
		}
	}
	if got := tape.Sum(); got != (tape.Total{}) {
		t.Error("Sum() of no arguments", got)
	}
	l := run()
	if tape.Sum(l[0], l[1]) != tape.Sum(l...) {
		t.Error("Sum of lines one by one")
	}
}

// P8.2: each field is summed from its own, at every place.
func TestSumOfEachField(t *testing.T) {
	for _, count := range []int{1, 2, 3, maxLoans} {
		for at := range count {
			for i, f := range fields {
				l := make([]api.Line, count)
				*f.of(&l[at]) = 7
				want := []tape.Total{{Principal: 7}, {Prepaid: 7}, {Interest: 7}, {Recov: 7}, {}}[i]
				if got := tape.Sum(l...); got != want {
					t.Errorf("%d lines, %s at %d: %v; want %v", count, f.name, at, got, want)
				}
			}
		}
	}
}

// P8.2: how many are to Default, whatever else they are.
func TestSumOfDefaults(t *testing.T) {
	for count := range maxLoans + 1 {
		for defaults := range count + 1 {
			first, last := lines(count), withIds(make([]int, count)...)
			for i := range count {
				first[i].Default = i < defaults
				last[i].Default = i >= count-defaults
			}
			if got := tape.Sum(first...).Defaults; got != defaults {
				t.Errorf("the first %d of %d: %d", defaults, count, got)
			}
			if got := tape.Sum(last...).Defaults; got != defaults {
				t.Errorf("the last %d of %d: %d", defaults, count, got)
			}
		}
	}
}

// P8.2: defaults are no cash.
func TestCash(t *testing.T) {
	for _, c := range []struct {
		total tape.Total
		want  int
	}{
		{tape.Total{}, 0},
		{tape.Total{Principal: 3}, 3},
		{tape.Total{Prepaid: 3}, 3},
		{tape.Total{Interest: 3}, 3},
		{tape.Total{Recov: 3}, 3},
		{tape.Total{Defaults: 3}, 0},
		{tape.Total{Principal: 1, Prepaid: 20, Interest: 300, Recov: 4000, Defaults: 50000}, 4321},
		{tape.Total{Principal: 1 << 46, Prepaid: 1 << 46, Interest: 1 << 46, Recov: 1 << 46, Defaults: 64}, 1 << 48},
	} {
		before := c.total
		if got := c.total.Cash(); got != c.want {
			t.Errorf("Cash of %v = %d; want %d", c.total, got, c.want)
		}
		if c.total != before {
			t.Errorf("Cash turned %v to %v", before, c.total)
		}
	}
}

// P8.2: field by field.
func TestPlus(t *testing.T) {
	a := tape.Total{Principal: 1, Prepaid: 20, Interest: 300, Recov: 4000, Defaults: 5}
	b := tape.Total{Principal: 70000, Prepaid: 6000, Interest: 500, Recov: 40, Defaults: 3}
	c := tape.Total{Principal: 1 << 46, Prepaid: 1 << 45, Interest: 1 << 44, Recov: 1 << 43, Defaults: 64}
	want := tape.Total{Principal: 70001, Prepaid: 6020, Interest: 800, Recov: 4040, Defaults: 8}
	if a.Plus(b) != want || b.Plus(a) != want {
		t.Error("in either order", a.Plus(b), b.Plus(a))
	}
	none := tape.Total{}
	for _, o := range []tape.Total{none, a, b, c} {
		if o.Plus(none) != o || none.Plus(o) != o {
			t.Error("a zero one", o.Plus(none), none.Plus(o))
		}
	}
	twice := tape.Total{Principal: 2, Prepaid: 40, Interest: 600, Recov: 8000, Defaults: 10}
	if a.Plus(a) != twice {
		t.Error("with itself", a.Plus(a))
	}
	all := tape.Total{
		Principal: 1<<46 + 70001, Prepaid: 1<<45 + 6020, Interest: 1<<44 + 800, Recov: 1<<43 + 4040, Defaults: 72,
	}
	for _, o := range [][3]tape.Total{{a, b, c}, {a, c, b}, {b, a, c}, {b, c, a}, {c, a, b}, {c, b, a}} {
		if o[0].Plus(o[1]).Plus(o[2]) != all || o[0].Plus(o[1].Plus(o[2])) != all {
			t.Error("three in any order", o)
		}
		if all.Cash() != o[0].Cash()+o[1].Cash()+o[2].Cash() {
			t.Error("the cash of three", o)
		}
	}
	if a != (tape.Total{Principal: 1, Prepaid: 20, Interest: 300, Recov: 4000, Defaults: 5}) {
		t.Error("Plus turned its own one", a)
	}
}

// P8.2: each field of Plus has nothing of another one.
func TestPlusFieldByField(t *testing.T) {
	parts := []tape.Total{{Principal: 3}, {Prepaid: 3}, {Interest: 3}, {Recov: 3}, {Defaults: 3}}
	numbers := func(o tape.Total) [5]int {
		return [5]int{o.Principal, o.Prepaid, o.Interest, o.Recov, o.Defaults}
	}
	for i, a := range parts {
		for j, b := range parts {
			var want [5]int
			want[i] += 3
			want[j] += 3
			if got := numbers(a.Plus(b)); got != want {
				t.Errorf("%v plus %v = %v", a, b, got)
			}
		}
	}
}

// P8.3: a tape cut at each place, and at each two places.
func TestPartsOfATape(t *testing.T) {
	for _, whole := range [][]api.Line{nil, run(), lines(1), lines(5), lines(maxLoans), full(1), full(maxLoans)} {
		want := tape.Sum(whole...)
		for cut := range len(whole) + 1 {
			first, rest := tape.Sum(whole[:cut]...), tape.Sum(whole[cut:]...)
			if first.Plus(rest) != want || rest.Plus(first) != want {
				t.Errorf("%d lines cut at %d: %v and %v; want %v", len(whole), cut, first, rest, want)
			}
			if first.Cash()+rest.Cash() != want.Cash() {
				t.Errorf("%d lines cut at %d: cash", len(whole), cut)
			}
			for again := cut; again <= len(whole); again++ {
				middle, last := tape.Sum(whole[cut:again]...), tape.Sum(whole[again:]...)
				if first.Plus(middle).Plus(last) != want {
					t.Errorf("%d lines cut at %d and %d", len(whole), cut, again)
				}
			}
		}
	}
}

// P8.3: a tape line by line, and by every second line.
func TestLinesOfATape(t *testing.T) {
	for count := range maxLoans + 1 {
		whole := lines(count)
		want := tape.Sum(whole...)
		var byLine tape.Total
		var parts [2][]api.Line
		for i, line := range whole {
			byLine = byLine.Plus(tape.Sum(line))
			parts[i%2] = append(parts[i%2], line)
		}
		if byLine != want {
			t.Errorf("%d lines one by one: %v; want %v", count, byLine, want)
		}
		if got := tape.Sum(parts[1]...).Plus(tape.Sum(parts[0]...)); got != want {
			t.Errorf("%d lines by every second: %v; want %v", count, got, want)
		}
		backward := slices.Clone(whole)
		slices.Reverse(backward)
		if got := tape.Sum(backward...); got != want {
			t.Errorf("%d lines backward: %v; want %v", count, got, want)
		}
	}
}

// wild are count lines of edges, wherever the numbers fall.
func wild(count, turn int) []api.Line {
	l := make([]api.Line, count)
	for i := range l {
		at := func(n int) int { return edges[(i*n+turn)%len(edges)] }
		l[i] = api.Line{
			Id: at(1), Principal: at(2), Prepaid: at(3), Interest: at(5), Recov: at(7), Late: at(11),
			Default: (i+turn)%2 == 0,
		}
	}
	return l
}

// rightLine is P8.1 said of a line and the one ahead of it.
func rightLine(ahead *api.Line, line api.Line) bool {
	for _, f := range fields {
		if n := *f.of(&line); n < 0 || n > f.most {
			return false
		}
	}
	return line.Id >= 1 && (ahead == nil || line.Id > ahead.Id)
}

// R1, R2, R5: of any lines, as many as there are, each call ends, and what is
// handed in stays as it was, its spare room too.
func TestAnyLines(t *testing.T) {
	for _, count := range []int{0, 1, 2, 3, maxLoans - 1, maxLoans, maxLoans + 1, 1000, 100000} {
		for turn := range edges {
			whole := append(wild(count, turn), api.Line{Id: 91, Late: 92}, api.Line{Id: 93, Late: 94})
			before := slices.Clone(whole)
			l := whole[:count]
			want := count <= maxLoans
			for i := range l {
				var ahead *api.Line
				if i > 0 {
					ahead = &before[i-1]
				}
				want = want && rightLine(ahead, l[i])
			}
			if got := tape.Right(l); got != want {
				t.Errorf("%d lines, turn %d: Right = %v", count, turn, got)
			}
			total := tape.Sum(l...)
			total.Cash()
			total.Plus(total)
			if tape.Sum(l...) != total {
				t.Errorf("%d lines, turn %d: Sum tells it otherwise again", count, turn)
			}
			if !slices.Equal(whole, before) {
				t.Errorf("%d lines, turn %d: turned", count, turn)
			}
		}
	}
}

// R2: right tapes stay as they were, and what was told of one doesn't hang on
// it any more.
func TestWhatIsHandedIn(t *testing.T) {
	for _, start := range [][]api.Line{run(), lines(1), lines(maxLoans), full(maxLoans), full(maxLoans + 1)} {
		whole := append(slices.Clone(start), api.Line{Id: 91, Principal: 92, Default: true})
		before := slices.Clone(whole)
		l := whole[:len(start)]
		tape.Right(l)
		total := tape.Sum(l...)
		if !slices.Equal(whole, before) {
			t.Errorf("%v: turned to %v", before, whole)
		}
		clear(whole)
		if total != tape.Sum(start...) {
			t.Error("a total hangs on its lines still", total)
		}
	}
}
