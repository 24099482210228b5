package note_test

import (
	"math"
	"math/big"
	"slices"
	"testing"

	"cascade/api"
	"cascade/cents"
	"cascade/note"
	"cascade/purse"
)

const top = cents.Top

// edges are the numbers around which a promise may break.
var edges = []int{
	math.MinInt, math.MinInt + 1, -top - 1, -top, -api.MaxCents, -101, -100, -1,
	0, 1, 40, 60, 99, 100, 101, api.MaxCents - 1, api.MaxCents, api.MaxCents + 1,
	top - 1, top, top + 1, math.MaxInt - top, math.MaxInt - 1, math.MaxInt,
}

// terms are right ones of this original.
func terms(original int) api.Terms {
	return api.Terms{Rank: 2, Original: original, Rate: 450}
}

// state is all that a note tells of itself.
type state struct{ balance, has, in, out, short, down int }

func of(n note.Note) state {
	return state{n.Balance(), n.Has(), n.In(), n.Out(), n.Short, n.Down}
}

// made is a right note of 100 of which so much was paid, written down and owed.
func made(t *testing.T, paid, down, short int) note.Note {
	t.Helper()
	n := note.New(terms(100))
	if n.Pay(paid) != paid || n.Write(down) != down || !n.Owe(short) ||
		of(n) != (state{100 - paid - down, paid, paid, 0, short, down}) {
		t.Fatalf("Pay(%d), Write(%d), Owe(%d): %v", paid, down, short, of(n))
	}
	return n
}

// The chapter's run.
func TestRun(t *testing.T) {
	n := note.New(terms(100))
	if got := n.Pay(30); got != 30 {
		t.Error("Pay(30)", got)
	}
	if got := n.Write(80); got != 70 {
		t.Error("Write(80)", got)
	}
	if got := n.Restore(20); got != 20 {
		t.Error("Restore(20)", got)
	}
	if n.Balance() != 20 || n.Has() != 30 {
		t.Error("behind them", of(n))
	}
}

// P6.1: the terms are held as they are, right or not, and nothing was done yet.
func TestNew(t *testing.T) {
	for _, e := range edges {
		for _, want := range []api.Terms{
			{}, terms(e), {Rank: e, Original: 100, Rate: 5}, {Rank: 1, Original: 100, Rate: e}, {Rank: e, Original: e, Rate: e},
		} {
			n := note.New(want)
			if n.Terms != want || n.Rank != want.Rank || n.Original != want.Original || n.Rate != want.Rate {
				t.Errorf("New(%v) has the terms %v", want, n.Terms)
			}
			if of(n) != (state{balance: want.Original}) {
				t.Errorf("New(%v) is %v", want, of(n))
			}
		}
	}
}

// P6.1: each bound just met, and one past it.
func TestRight(t *testing.T) {
	for _, c := range []struct {
		name string
		turn func(n *note.Note)
		want bool
	}{
		{"as made", func(n *note.Note) {}, true},
		{"Rank 0", func(n *note.Note) { n.Rank = 0 }, true},
		{"Rank below 0", func(n *note.Note) { n.Rank = -1 }, false},
		{"Rank 1", func(n *note.Note) { n.Rank = 1 }, true},
		{"Rank just below the last", func(n *note.Note) { n.Rank = api.MaxRanks - 2 }, true},
		{"the last Rank", func(n *note.Note) { n.Rank = api.MaxRanks - 1 }, true},
		{"a Rank past the last", func(n *note.Note) { n.Rank = api.MaxRanks }, false},
		{"the least Rank", func(n *note.Note) { n.Rank = math.MinInt }, false},
		{"the greatest Rank", func(n *note.Note) { n.Rank = math.MaxInt }, false},
		{"Original 0", func(n *note.Note) { n.Original = 0 }, true},
		{"Original 1", func(n *note.Note) { n.Original = 1 }, true},
		{"Original below 0", func(n *note.Note) { n.Original = -1 }, false},
		{"Original just below MaxCents", func(n *note.Note) { n.Original = api.MaxCents - 1 }, true},
		{"Original MaxCents", func(n *note.Note) { n.Original = api.MaxCents }, true},
		{"Original above MaxCents", func(n *note.Note) { n.Original = api.MaxCents + 1 }, false},
		{"Original Top", func(n *note.Note) { n.Original = top }, false},
		{"the least Original", func(n *note.Note) { n.Original = math.MinInt }, false},
		{"the greatest Original", func(n *note.Note) { n.Original = math.MaxInt }, false},
		{"Rate 0", func(n *note.Note) { n.Rate = 0 }, true},
		{"Rate below 0", func(n *note.Note) { n.Rate = -1 }, false},
		{"Rate just below MaxRate", func(n *note.Note) { n.Rate = api.MaxRate - 1 }, true},
		{"Rate MaxRate", func(n *note.Note) { n.Rate = api.MaxRate }, true},
		{"Rate above MaxRate", func(n *note.Note) { n.Rate = api.MaxRate + 1 }, false},
		{"the least Rate", func(n *note.Note) { n.Rate = math.MinInt }, false},
		{"the greatest Rate", func(n *note.Note) { n.Rate = math.MaxInt }, false},
		{"Short 1", func(n *note.Note) { n.Short = 1 }, true},
		{"Short below 0", func(n *note.Note) { n.Short = -1 }, false},
		{"Short above Original", func(n *note.Note) { n.Short = 101 }, true},
		{"Short above MaxCents", func(n *note.Note) { n.Short = api.MaxCents + 1 }, true},
		{"Short Top", func(n *note.Note) { n.Short = top }, true},
		{"Short above Top", func(n *note.Note) { n.Short = top + 1 }, false},
		{"the least Short", func(n *note.Note) { n.Short = math.MinInt }, false},
		{"the greatest Short", func(n *note.Note) { n.Short = math.MaxInt }, false},
		{"Down 1", func(n *note.Note) { n.Down = 1 }, true},
		{"Down below 0", func(n *note.Note) { n.Down = -1 }, false},
		{"Down just below Original", func(n *note.Note) { n.Down = 99 }, true},
		{"Down Original", func(n *note.Note) { n.Down = 100 }, true},
		{"Down above Original", func(n *note.Note) { n.Down = 101 }, false},
		{"the least Down", func(n *note.Note) { n.Down = math.MinInt }, false},
		{"the greatest Down", func(n *note.Note) { n.Down = math.MaxInt }, false},
		{"Has Original", func(n *note.Note) { n.Put(100) }, true},
		{"Has above Original", func(n *note.Note) { n.Put(101) }, false},
		{"Has Top", func(n *note.Note) { n.Put(top) }, false},
		{"Has and Down just Original", func(n *note.Note) { n.Put(60); n.Down = 40 }, true},
		{"Has and Down one more: Down", func(n *note.Note) { n.Put(60); n.Down = 41 }, false},
		{"Has and Down one more: Has", func(n *note.Note) { n.Put(61); n.Down = 40 }, false},
		{"Has and Down one more: Original one less", func(n *note.Note) { n.Put(60); n.Down = 40; n.Original = 99 }, false},
		{"Has and Down of Original 0", func(n *note.Note) { n.Put(1); n.Original = 0 }, false},
		{"Has above Original, Down as much below 0", func(n *note.Note) { n.Put(110); n.Down = -10 }, false},
		{"Has and Down that wrap round", func(n *note.Note) { n.Put(top); n.Down = math.MaxInt }, false},
		{"Has and Down that wrap round to just 0", func(n *note.Note) { n.Put(top); n.Down = math.MinInt }, false},
		// What is in the purse counts, not what ever went in.
		{"much went in, and out", func(n *note.Note) { n.Put(top); n.Take(top - 60); n.Down = 40 }, true},
		{"much went in, and out, but a cent", func(n *note.Note) { n.Put(top); n.Take(top - 61); n.Down = 40 }, false},
		{"all that went in went out", func(n *note.Note) { n.Put(top); n.All(); n.Down = 100 }, true},
	} {
		n := note.New(terms(100))
		c.turn(&n)
		if n.Right() != c.want {
			t.Errorf("%s: Right() of %v, %v = %v", c.name, n.Terms, of(n), !c.want)
		}
	}
	if !(note.Note{}).Right() {
		t.Error("the zero Note isn't right")
	}
}

// right is P6.1's question with numbers that have no end.
func right(n note.Note) bool {
	together := new(big.Int).Add(big.NewInt(int64(n.Has())), big.NewInt(int64(n.Down)))
	return n.Rank >= 0 && n.Rank < api.MaxRanks && n.Original >= 0 && n.Original <= api.MaxCents &&
		n.Rate >= 0 && n.Rate <= api.MaxRate && n.Short >= 0 && n.Short <= top &&
		n.Down >= 0 && together.Cmp(big.NewInt(int64(n.Original))) <= 0
}

// P6.1: fields turned to any ints.
func TestRightOfEdges(t *testing.T) {
	ask := func(n note.Note) {
		if n.Right() != right(n) {
			t.Errorf("Right() of %v, %v = %v", n.Terms, of(n), n.Right())
		}
	}
	for _, a := range edges {
		for _, b := range edges {
			for _, c := range edges {
				ask(note.Note{Terms: terms(a), Purse: purse.Of(b), Down: c})
				ask(note.Note{Terms: api.Terms{Rank: a, Original: 100, Rate: b}, Purse: purse.Of(60), Short: c, Down: 40})
				ask(note.Note{Terms: api.Terms{Rank: a, Original: b, Rate: c}})
				ask(note.Note{Terms: terms(a), Short: b, Down: c})
			}
		}
	}
}

// P6.2
func TestBalance(t *testing.T) {
	for _, c := range []struct{ original, has, down, want int }{
		{100, 0, 0, 100}, {100, 30, 0, 70}, {100, 0, 30, 70}, {100, 30, 20, 50}, {100, 60, 39, 1}, {100, 60, 40, 0},
		{100, 100, 0, 0}, {100, 0, 100, 0}, {0, 0, 0, 0}, {1, 0, 0, 1},
		{api.MaxCents, 0, 0, api.MaxCents}, {api.MaxCents, 1, 1, api.MaxCents - 2}, {api.MaxCents, api.MaxCents, 0, 0},
		{100, 60, 50, -10}, {100, 110, 0, -10}, {100, 0, -10, 110}, {-5, 0, 0, -5},
	} {
		n := note.Note{Terms: terms(c.original), Purse: purse.Of(c.has), Down: c.down, Short: 7}
		for range 2 {
			if got := n.Balance(); got != c.want {
				t.Errorf("Balance of %d, paid %d, down %d = %d; want %d", c.original, c.has, c.down, got, c.want)
			}
		}
	}
}

// P6.2: a Pay and a Write are of the balance alike.
func TestPayAndWrite(t *testing.T) {
	for _, c := range []struct {
		name          string
		paid, down, c int
		want          int
	}{
		{"some", 0, 0, 30, 30},
		{"some more", 30, 20, 10, 10},
		{"nothing", 30, 20, 0, 0},
		{"a cent less than the balance", 30, 20, 49, 49},
		{"just the balance", 30, 20, 50, 50},
		{"a cent more than the balance", 30, 20, 51, 50},
		{"as much as the original", 30, 20, 100, 50},
		{"of one that is paid", 100, 0, 1, 0},
		{"of one that is written down", 0, 100, 1, 0},
		{"of one that is paid and written down", 60, 40, 1, 0},
		{"below 0", 30, 20, -1, 0},
		{"below 0, as much as was paid", 30, 20, -30, 0},
		{"below 0, as much as was written down", 30, 20, -20, 0},
		{"below 0, of one that is paid", 100, 0, -1, 0},
		{"below 0, of one that is written down", 0, 100, -1, 0},
		{"below -Top", 30, 20, -top - 1, 0},
		{"the least int", 30, 20, math.MinInt, 0},
		{"Top", 30, 20, top, 50},
		{"above Top", 30, 20, top + 1, 50},
		{"the greatest int", 30, 20, math.MaxInt, 50},
		{"the greatest int, of one that is paid", 100, 0, math.MaxInt, 0},
		{"the greatest int, of one that is written down", 0, 100, math.MaxInt, 0},
	} {
		left := 100 - c.paid - c.down - c.want
		payee := made(t, c.paid, c.down, 7)
		want := state{left, c.paid + c.want, c.paid + c.want, 0, 7, c.down}
		if got := payee.Pay(c.c); got != c.want || of(payee) != want || payee.Terms != terms(100) {
			t.Errorf("%s: Pay(%d) = %d, %v; want %d, %v", c.name, c.c, got, of(payee), c.want, want)
		}
		loser := made(t, c.paid, c.down, 7)
		want = state{left, c.paid, c.paid, 0, 7, c.down + c.want}
		if got := loser.Write(c.c); got != c.want || of(loser) != want || loser.Terms != terms(100) {
			t.Errorf("%s: Write(%d) = %d, %v; want %d, %v", c.name, c.c, got, of(loser), c.want, want)
		}
	}
}

// P6.2: a purse that doesn't take it.
func TestPayThatThePurseRefuses(t *testing.T) {
	n := note.New(terms(100))
	n.Put(top - 5)
	n.All()
	full := state{100, 0, top - 5, top - 5, 0, 0}
	for _, c := range []int{6, 99, 100, 101, top, math.MaxInt} {
		if got := n.Pay(c); got != 0 || of(n) != full {
			t.Errorf("Pay(%d) with room for 5 = %d, %v", c, got, of(n))
		}
	}
	if got := n.Pay(5); got != 5 || of(n) != (state{95, 5, top, top - 5, 0, 0}) {
		t.Error("Pay(5) with room for 5", got, of(n))
	}
	for _, c := range []int{1, 0, -1, math.MinInt} {
		if got := n.Pay(c); got != 0 || of(n) != (state{95, 5, top, top - 5, 0, 0}) {
			t.Errorf("Pay(%d) without room = %d, %v", c, got, of(n))
		}
	}
	if got := n.Write(10); got != 10 || of(n) != (state{85, 5, top, top - 5, 0, 10}) || !n.Right() {
		t.Error("Write(10) behind it", got, of(n))
	}
	// The balance is what counts against the room, not what was handed in.
	n.Write(85)
	n.Restore(3)
	if got := n.Pay(0); got != 0 || of(n) != (state{3, 5, top, top - 5, 0, 92}) {
		t.Error("Pay(0) of it", got, of(n))
	}
	small := note.New(terms(3))
	small.Put(top - 3)
	small.All()
	if got := small.Pay(math.MaxInt); got != 3 || of(small) != (state{0, 3, top, top - 3, 0, 0}) {
		t.Error("Pay of all, with just room for the balance", got, of(small))
	}
}

// P6.2
func TestRestore(t *testing.T) {
	for _, c := range []struct {
		name          string
		paid, down, c int
		want          int
	}{
		{"some", 30, 20, 5, 5},
		{"nothing", 30, 20, 0, 0},
		{"a cent less than was written down", 30, 20, 19, 19},
		{"just what was written down", 30, 20, 20, 20},
		{"a cent more than was written down", 30, 20, 21, 20},
		{"as much as the balance", 30, 20, 50, 20},
		{"of one of which nothing was written down", 30, 0, 1, 0},
		{"of one that is paid", 100, 0, 1, 0},
		{"all of one that is written down", 0, 100, 100, 100},
		{"below 0", 30, 20, -1, 0},
		{"below 0, as much as the balance", 30, 20, -50, 0},
		{"below 0, of one of which nothing was written down", 30, 0, -1, 0},
		{"below -Top", 30, 20, -top - 1, 0},
		{"the least int", 30, 20, math.MinInt, 0},
		{"Top", 30, 20, top, 20},
		{"above Top", 30, 20, top + 1, 20},
		{"the greatest int", 30, 20, math.MaxInt, 20},
		{"the greatest int, of one of which nothing was written down", 30, 0, math.MaxInt, 0},
	} {
		n := made(t, c.paid, c.down, 7)
		down := c.down - c.want
		want := state{100 - c.paid - down, c.paid, c.paid, 0, 7, down}
		if got := n.Restore(c.c); got != c.want || of(n) != want || n.Terms != terms(100) {
			t.Errorf("%s: Restore(%d) = %d, %v; want %d, %v", c.name, c.c, got, of(n), c.want, want)
		}
	}
}

// P6.3
func TestOwe(t *testing.T) {
	for _, c := range []struct {
		name     string
		short, c int
		want     bool
	}{
		{"some", 0, 7, true},
		{"some more", 7, 5, true},
		{"nothing", 7, 0, true},
		{"nothing to nothing", 0, 0, true},
		{"more than the original", 7, 1000, true},
		{"Top to nothing", 0, top, true},
		{"just Top", 7, top - 7, true},
		{"a cent above Top", 7, top - 6, false},
		{"a cent above Top, to nothing", 0, top + 1, false},
		{"the last cent to Top", top - 1, 1, true},
		{"a cent behind the last", top, 1, false},
		{"nothing to Top", top, 0, true},
		{"Top to Top", top, top, false},
		{"below 0", 7, -1, false},
		{"below 0, as much as is owed", 7, -7, false},
		{"below 0, to nothing", 0, -1, false},
		{"below 0, to Top", top, -1, false},
		{"below -Top", 7, -top - 1, false},
		{"the least int", 7, math.MinInt, false},
		{"the least int, to Top", top, math.MinInt, false},
		{"the greatest int", 0, math.MaxInt, false},
		{"the greatest int, to some: wraps round", 7, math.MaxInt, false},
		{"the greatest int, to Top: wraps round", top, math.MaxInt, false},
		{"the least that wraps round", top, math.MaxInt - top + 1, false},
	} {
		n := made(t, 30, 20, c.short)
		want := state{50, 30, 30, 0, c.short, 20}
		if c.want {
			want.short += c.c
		}
		if got := n.Owe(c.c); got != c.want || of(n) != want || n.Terms != terms(100) {
			t.Errorf("%s: Owe(%d) = %v, %v; want %v, %v", c.name, c.c, got, of(n), c.want, want)
		}
	}
}

// P6.3
func TestSettle(t *testing.T) {
	for _, c := range []struct {
		name     string
		short, c int
		want     int
	}{
		{"some", 7, 3, 3},
		{"nothing", 7, 0, 0},
		{"a cent less than is owed", 7, 6, 6},
		{"all", 7, 7, 7},
		{"a cent more than is owed", 7, 8, 7},
		{"far more than is owed", 7, 1000, 7},
		{"where nothing is owed", 0, 5, 0},
		{"a cent of Top", top, 1, 1},
		{"all of Top", top, top, top},
		{"a cent more than Top", top, top + 1, top},
		{"below 0", 7, -1, 0},
		{"below 0, as much as is owed", 7, -7, 0},
		{"below 0, where nothing is owed", 0, -1, 0},
		{"below -Top", top, -top - 1, 0},
		{"the least int", 7, math.MinInt, 0},
		{"above Top", 7, top + 1, 7},
		{"the greatest int", 7, math.MaxInt, 7},
		{"the greatest int, of Top", top, math.MaxInt, top},
		{"the greatest int, where nothing is owed", 0, math.MaxInt, 0},
	} {
		n := made(t, 30, 20, c.short)
		want := state{50, 30, 30, 0, c.short - c.want, 20}
		if got := n.Settle(c.c); got != c.want || of(n) != want || n.Terms != terms(100) {
			t.Errorf("%s: Settle(%d) = %d, %v; want %d, %v", c.name, c.c, got, of(n), c.want, want)
		}
	}
}

// P6.3: what is owed, settled and owed again.
func TestOweAndSettle(t *testing.T) {
	n := made(t, 30, 20, 0)
	if !n.Owe(top) || n.Owe(1) || n.Settle(1) != 1 || !n.Owe(1) || n.Owe(1) || n.Short != top {
		t.Error("around Top", of(n))
	}
	if n.Settle(math.MaxInt) != top || n.Settle(1) != 0 || !n.Owe(9) || n.Short != 9 {
		t.Error("behind a Settle of all", of(n))
	}
	if of(n) != (state{50, 30, 30, 0, 9, 20}) {
		t.Error("what else the note has", of(n))
	}
}

// P6.4
func TestTotal(t *testing.T) {
	type list = []note.Note
	greatest := note.New(terms(api.MaxCents))
	greatest.Owe(top)
	lost := note.New(terms(api.MaxCents))
	lost.Write(math.MaxInt)
	through := note.New(terms(100))
	through.Put(top)
	through.Take(top - 25)
	for _, c := range []struct {
		name                 string
		l                    list
		balance, short, down int
	}{
		{"none", nil, 0, 0, 0},
		{"an empty list", list{}, 0, 0, 0},
		{"a zero note", list{{}}, 0, 0, 0},
		{"a new one", list{note.New(terms(100))}, 100, 0, 0},
		{"one", list{made(t, 30, 20, 7)}, 50, 7, 20},
		{"one that is paid", list{made(t, 100, 0, 7)}, 0, 7, 0},
		{"one that is written down", list{made(t, 0, 100, 0)}, 0, 0, 100},
		{"one through which much went", list{through}, 75, 0, 0},
		{"two", list{made(t, 30, 20, 7), made(t, 1, 2, 3)}, 147, 10, 22},
		{"several", list{made(t, 30, 20, 2), made(t, 0, 50, 9), note.New(terms(7)), {}, made(t, 60, 40, 1)}, 107, 12, 110},
		{"one twice", list{made(t, 30, 20, 7), made(t, 30, 20, 7)}, 100, 14, 40},
		{"the greatest ones", list{greatest, lost, greatest, lost}, 2 * api.MaxCents, 2 * top, 2 * api.MaxCents},
		{"as great as an int holds", slices.Repeat(list{greatest}, 7), 7 * api.MaxCents, 7 * top, 0},
		{"more than a deal may have", slices.Repeat(list{made(t, 30, 20, 7)}, 1000), 50000, 7000, 20000},
	} {
		for range 2 {
			balance, short, down := note.Total(c.l...)
			if balance != c.balance || short != c.short || down != c.down {
				t.Errorf("%s: Total = %d, %d, %d; want %d, %d, %d", c.name, balance, short, down, c.balance, c.short, c.down)
			}
			slices.Reverse(c.l)
		}
	}
}

// P6.4: of notes that aren't right it ends.
func TestTotalOfWrongNotesEnds(t *testing.T) {
	var l []note.Note
	for _, a := range edges {
		for _, b := range edges {
			l = append(l, note.Note{Terms: terms(a), Purse: purse.Of(top), Short: b, Down: a}, note.Note{Terms: terms(b), Short: a, Down: b})
			note.Total(l[len(l)-2:]...)
		}
	}
	note.Total(l...)
}

// R2: the list is the caller's: neither it nor its spare room is written.
func TestTotalKeepsTheList(t *testing.T) {
	whole := []note.Note{made(t, 30, 20, 7), made(t, 1, 2, 3), made(t, 4, 5, 6), {}}
	before := slices.Clone(whole)
	if balance, short, down := note.Total(whole[:2]...); balance != 147 || short != 10 || down != 22 {
		t.Error("Total of a list with spare room", balance, short, down)
	}
	if !slices.Equal(whole, before) {
		t.Error("the list", whole)
	}
}

// book is a note with numbers that have no end.
type book struct{ original, in, out, short, down big.Int }

func number(n int) *big.Int { return big.NewInt(int64(n)) }

func (b *book) has() *big.Int { return new(big.Int).Sub(&b.in, &b.out) }

func (b *book) balance() *big.Int {
	left := new(big.Int).Sub(&b.original, b.has())
	return left.Sub(left, &b.down)
}

func (b *book) state() state {
	return state{int(b.balance().Int64()), int(b.has().Int64()), int(b.in.Int64()), int(b.out.Int64()), int(b.short.Int64()), int(b.down.Int64())}
}

func (b *book) copy() *book {
	c := new(book)
	c.original.Set(&b.original)
	c.in.Set(&b.in)
	c.out.Set(&b.out)
	c.short.Set(&b.short)
	c.down.Set(&b.down)
	return c
}

// add adds c to sum and tells whether it may be: c no less than 0, sum no more
// than Top.
func add(sum *big.Int, c *big.Int) bool {
	more := new(big.Int).Add(sum, c)
	if c.Sign() < 0 || more.Cmp(number(top)) > 0 {
		return false
	}
	sum.Set(more)
	return true
}

// part is as much of c as there is, and nothing of a c below 0.
func part(there *big.Int, c int) *big.Int {
	if c < 0 || there.Sign() < 0 {
		return new(big.Int)
	}
	if number(c).Cmp(there) < 0 {
		return number(c)
	}
	return new(big.Int).Set(there)
}

// told is 1 of true, so that all calls tell a number.
func told(ok bool) int {
	if ok {
		return 1
	}
	return 0
}

// act is one call of a note, and what it is with numbers that have no end.
type act struct {
	name  string
	note  func(n *note.Note, c int) int
	model func(b *book, c int) int
}

var acts = []act{
	{"Pay", (*note.Note).Pay, func(b *book, c int) int {
		paid := part(b.balance(), c)
		if !add(&b.in, paid) {
			return 0
		}
		return int(paid.Int64())
	}},
	{"Write", (*note.Note).Write, func(b *book, c int) int {
		written := part(b.balance(), c)
		b.down.Add(&b.down, written)
		return int(written.Int64())
	}},
	{"Restore", (*note.Note).Restore, func(b *book, c int) int {
		restored := part(&b.down, c)
		b.down.Sub(&b.down, restored)
		return int(restored.Int64())
	}},
	{"Owe", func(n *note.Note, c int) int { return told(n.Owe(c)) }, func(b *book, c int) int {
		return told(add(&b.short, number(c)))
	}},
	{"Settle", (*note.Note).Settle, func(b *book, c int) int {
		settled := part(&b.short, c)
		b.short.Sub(&b.short, settled)
		return int(settled.Int64())
	}},
	{"Put", func(n *note.Note, c int) int { return told(n.Put(c)) }, func(b *book, c int) int {
		return told(add(&b.in, number(c)))
	}},
	{"Take", func(n *note.Note, c int) int { return n.Take(c) }, func(b *book, c int) int {
		taken := part(b.has(), c)
		b.out.Add(&b.out, taken)
		return int(taken.Int64())
	}},
}

// P6.5, and P6.2 and P6.3 whatever is done one behind the other. Each branch
// goes on with a copy, so that the copies don't touch each other either.
func TestWhateverIsDone(t *testing.T) {
	amounts := []int{math.MinInt, -1, 0, 1, 40, 60, 100, 101, top - 60, top, top + 1, math.MaxInt}
	var goOn func(depth int, n note.Note, b *book)
	goOn = func(depth int, n note.Note, b *book) {
		if of(n) != b.state() {
			t.Fatalf("a note of %d is %v; want %v", n.Original, of(n), b.state())
		}
		if n.Original != n.Balance()+n.Has()+n.Down || n.Terms != terms(int(b.original.Int64())) {
			t.Fatalf("a note of %v is %v", n.Terms, of(n))
		}
		// A purse may be filled beside Pay, above the original: nothing else
		// makes a note that isn't right.
		if n.Right() != (b.balance().Sign() >= 0) {
			t.Fatalf("Right() of a note of %d, %v = %v", n.Original, of(n), n.Right())
		}
		if depth == 0 {
			return
		}
		for _, a := range acts {
			for _, c := range amounts {
				next, model := n, b.copy()
				if got, want := a.note(&next, c), a.model(model, c); got != want {
					t.Fatalf("%s(%d) of a note of %d, %v = %d; want %d", a.name, c, n.Original, of(n), got, want)
				}
				goOn(depth-1, next, model)
			}
		}
	}
	for _, original := range []int{0, 1, 100, api.MaxCents} {
		b := new(book)
		b.original.Set(number(original))
		goOn(3, note.New(terms(original)), b)
	}
}

// P6.5: calls of the chapter alone keep a right note right.
func TestRightStaysRight(t *testing.T) {
	n := note.New(terms(100))
	for i := range 3000 {
		a := acts[i*7%5]
		a.note(&n, i*37%61-5)
		if !n.Right() || n.Original != n.Balance()+n.Has()+n.Down || n.Balance() < 0 {
			t.Fatalf("behind call %d, %s: %v", i, a.name, of(n))
		}
	}
}

// The purse's calls are the note's own, beside Pay.
func TestPromoted(t *testing.T) {
	n := made(t, 30, 20, 7)
	if !n.Put(10) || of(n) != (state{40, 40, 40, 0, 7, 20}) {
		t.Error("Put(10)", of(n))
	}
	if got := n.Take(15); got != 15 || of(n) != (state{55, 25, 40, 15, 7, 20}) {
		t.Error("Take(15)", got, of(n))
	}
	// What was taken out may be paid again.
	if got := n.Pay(60); got != 55 || of(n) != (state{0, 80, 95, 15, 7, 20}) {
		t.Error("Pay(60)", got, of(n))
	}
	if got := n.All(); got != 80 || of(n) != (state{80, 0, 95, 95, 7, 20}) {
		t.Error("All()", got, of(n))
	}
	if n.Put(-1) || n.Take(-1) != 0 || of(n) != (state{80, 0, 95, 95, 7, 20}) {
		t.Error("Put(-1), Take(-1)", of(n))
	}
	other := purse.Of(25)
	if got := purse.Move(20, &other, &n.Purse); got != 20 || of(n) != (state{60, 20, 115, 95, 7, 20}) || other.Has() != 5 {
		t.Error("Move into it", got, of(n), other.Has())
	}
	if got := purse.Move(5, &n.Purse, &other); got != 5 || of(n) != (state{65, 15, 115, 100, 7, 20}) || other.Has() != 10 {
		t.Error("Move out of it", got, of(n), other.Has())
	}
	if n.Has() != n.Purse.Has() || n.In() != n.Purse.In() || n.Out() != n.Purse.Out() || n.Rank != n.Terms.Rank {
		t.Error("what is promoted isn't what is embedded", of(n))
	}
}

// A purse that was filled above the original leaves a balance below 0, of which
// nothing is paid or written down.
func TestOverpaid(t *testing.T) {
	n := made(t, 30, 20, 7)
	n.Put(60)
	over := state{-10, 90, 90, 0, 7, 20}
	if of(n) != over || n.Right() {
		t.Error("Put above the balance", of(n))
	}
	for _, c := range edges {
		if n.Pay(c) != 0 || n.Write(c) != 0 || of(n) != over {
			t.Errorf("Pay(%d), Write(%d): %v", c, c, of(n))
		}
	}
	if got := n.Restore(12); got != 12 || of(n) != (state{2, 90, 90, 0, 7, 8}) || !n.Right() {
		t.Error("Restore(12)", got, of(n))
	}
}

// A Note is a value.
func TestCopyGoesOnByItself(t *testing.T) {
	first := made(t, 30, 20, 7)
	second := first
	if first != second {
		t.Error("a copy", of(second))
	}
	kept := of(first)
	first.Pay(10)
	first.Write(5)
	first.Owe(2)
	first.Rank = 3
	if of(second) != kept || second.Terms != terms(100) {
		t.Error("calls of the one that it was made of", of(second))
	}
	if of(first) != (state{35, 40, 40, 0, 9, 25}) {
		t.Error("the one that it was made of", of(first))
	}
	second.Restore(20)
	second.Settle(7)
	second.All()
	if of(second) != (state{100, 0, 30, 30, 0, 0}) || of(first) != (state{35, 40, 40, 0, 9, 25}) {
		t.Error("calls of the copy", of(first), of(second))
	}
	row := [2]note.Note{first, second}
	other := row
	row[0].Pay(35)
	if of(other[0]) != (state{35, 40, 40, 0, 9, 25}) || of(first) != of(other[0]) {
		t.Error("copies in an array", of(other[0]), of(first))
	}
}

// R1: no call of a note that isn't right panics, or turns an amount into its
// opposite.
func TestWrongNotes(t *testing.T) {
	for _, original := range edges {
		for _, field := range edges {
			wrong := note.Note{Terms: terms(original), Purse: purse.Of(60), Short: field, Down: field}
			for _, c := range edges {
				for _, a := range acts {
					n := wrong
					if got := a.note(&n, c); got < 0 {
						t.Errorf("%s(%d) of a note of %d, %v = %d", a.name, c, original, of(wrong), got)
					}
				}
				n := wrong
				if n.Restore(c) > max(field, 0) || n.Settle(c) > max(field, 0) {
					t.Errorf("more than there is of %d went at %d", field, c)
				}
			}
		}
	}
}

// P6.3: of a note with a Short that isn't right, too, the sum is what counts.
func TestOweToAnyShort(t *testing.T) {
	for _, short := range edges {
		for _, c := range edges {
			n := note.Note{Terms: terms(100), Short: short}
			want := number(short)
			ok := add(want, number(c))
			if got := n.Owe(c); got != ok || n.Short != int(want.Int64()) {
				t.Errorf("Owe(%d) to %d = %v, %d; want %v, %d", c, short, got, n.Short, ok, want)
			}
		}
	}
}
