package purse_test

import (
	"math"
	"math/big"
	"slices"
	"testing"

	"cascade/cents"
	"cascade/purse"
)

const top = cents.Top

// edges are the numbers around which a promise may break.
var edges = []int{
	math.MinInt, math.MinInt + 1, -top - 1, -top, -2, -1,
	0, 1, 2, 3, 1 << 32, top/2 - 1, top / 2, top/2 + 1, top - 2, top - 1, top, top + 1, 2 * top,
	math.MaxInt - top, math.MaxInt - 1, math.MaxInt,
}

// sums are what a purse tells of itself.
type sums struct{ has, in, out int }

func of(p purse.Purse) sums {
	return sums{p.Has(), p.In(), p.Out()}
}

// made is a purse into which in went, and out of which out went.
func made(t *testing.T, in, out int) purse.Purse {
	t.Helper()
	var p purse.Purse
	if !p.Put(in) || p.Take(out) != out || of(p) != (sums{in - out, in, out}) {
		t.Fatalf("Put(%d), Take(%d): %v", in, out, of(p))
	}
	return p
}

// The chapter's run.
func TestRun(t *testing.T) {
	p := purse.Of(10)
	if got := p.Take(3); got != 3 {
		t.Error("Take(3)", got)
	}
	if got := p.Take(9); got != 7 {
		t.Error("Take(9)", got)
	}
	if of(p) != (sums{0, 10, 10}) {
		t.Error("behind both", of(p))
	}
	if p.Put(-1) {
		t.Error("Put(-1)")
	}
	if of(p) != (sums{0, 10, 10}) {
		t.Error("behind Put(-1)", of(p))
	}
}

// The zero Purse has nothing, and is used as any other.
func TestZeroPurse(t *testing.T) {
	var p purse.Purse
	if of(p) != (sums{}) {
		t.Error("the zero Purse", of(p))
	}
	if got := p.Take(5); got != 0 || of(p) != (sums{}) {
		t.Error("Take of it", got, of(p))
	}
	if got := p.All(); got != 0 || of(p) != (sums{}) {
		t.Error("All of it", got, of(p))
	}
	if !p.Put(7) || of(p) != (sums{7, 7, 0}) {
		t.Error("Put into it", of(p))
	}
}

// P5.1
func TestOf(t *testing.T) {
	for _, c := range []struct{ n, want int }{
		{0, 0}, {1, 1}, {10, 10}, {1 << 40, 1 << 40}, {top - 1, top - 1}, {top, top},
		{-1, 0}, {-10, 0}, {-top, 0}, {math.MinInt, 0}, {math.MinInt + 1, 0},
		{top + 1, 0}, {2 * top, 0}, {math.MaxInt - 1, 0}, {math.MaxInt, 0},
	} {
		if got := of(purse.Of(c.n)); got != (sums{c.want, c.want, 0}) {
			t.Errorf("Of(%d): %v", c.n, got)
		}
	}
}

// P5.1
func TestPut(t *testing.T) {
	for _, c := range []struct {
		name       string
		in, out, n int
		ok         bool
	}{
		{"into an empty one", 0, 0, 5, true},
		{"more to some", 10, 0, 5, true},
		{"into one out of which something went", 10, 4, 5, true},
		{"into one out of which all went", 10, 10, 5, true},
		{"nothing", 10, 4, 0, true},
		{"nothing into an empty one", 0, 0, 0, true},
		{"Top into an empty one", 0, 0, top, true},
		{"just Top in all", top - 5, 0, 5, true},
		{"one cent above Top in all", top - 5, 0, 6, false},
		{"nothing into a full one", top, 0, 0, true},
		{"a cent into a full one", top, 0, 1, false},
		{"Top into a full one", top, 0, top, false},
		// What went in counts, not what is in it.
		{"just Top in all, though half is out", top - 5, top / 2, 5, true},
		{"one cent above Top in all, though half is out", top - 5, top / 2, 6, false},
		{"a cent, though all of Top is out", top, top, 1, false},
		{"nothing, though all of Top is out", top, top, 0, true},
		{"Top, though the one cent is out", 1, 1, top, false},
		{"Top less the one cent that is out", 1, 1, top - 1, true},
		{"below 0", 10, 4, -1, false},
		{"below 0 into an empty one", 0, 0, -1, false},
		{"below 0 into a full one", top, 0, -1, false},
		{"below 0, no more than there is", 10, 0, -10, false},
		{"the least int", 10, 4, math.MinInt, false},
		{"the least int, but one", 0, 0, math.MinInt + 1, false},
		{"above Top", 0, 0, top + 1, false},
		{"the greatest int", 0, 0, math.MaxInt, false},
		{"the greatest int into some: wraps round", 10, 4, math.MaxInt, false},
		{"the greatest int into a full one: wraps round", top, 0, math.MaxInt, false},
	} {
		p := made(t, c.in, c.out)
		ok := p.Put(c.n)
		want := sums{c.in - c.out, c.in, c.out}
		if c.ok {
			want = sums{c.in - c.out + c.n, c.in + c.n, c.out}
		}
		if ok != c.ok || of(p) != want {
			t.Errorf("%s: Put(%d) = %v, %v; want %v, %v", c.name, c.n, ok, of(p), c.ok, want)
		}
	}
}

// P5.1
func TestTake(t *testing.T) {
	for _, c := range []struct {
		name       string
		in, out, n int
		want       int
	}{
		{"some", 10, 0, 3, 3},
		{"some more", 10, 3, 3, 3},
		{"nothing", 10, 3, 0, 0},
		{"one cent less than there is", 10, 3, 6, 6},
		{"all", 10, 3, 7, 7},
		{"one cent more than there is", 10, 3, 8, 7},
		{"as much as ever went in", 10, 3, 10, 7},
		{"far more than there is", 10, 3, 1000, 7},
		{"of an empty one", 0, 0, 5, 0},
		{"of one out of which all went", 10, 10, 5, 0},
		{"Top of a full one", top, 0, top, top},
		{"a cent of a full one", top, 0, 1, 1},
		{"the last cent of Top", top, top - 1, top, 1},
		{"of one out of which Top went", top, top, top, 0},
		{"below 0", 10, 3, -1, 0},
		{"below 0, as much as went out", 10, 3, -3, 0},
		{"below 0, of an empty one", 0, 0, -4, 0},
		{"below 0, of one out of which all went", 10, 10, -10, 0},
		{"the least int", 10, 3, math.MinInt, 0},
		{"the least int, of one out of which Top went", top, top, math.MinInt, 0},
		{"above Top", top, 0, top + 1, top},
		{"the greatest int", 10, 3, math.MaxInt, 7},
		{"the greatest int, of a full one", top, 0, math.MaxInt, top},
		{"the greatest int, of an empty one", 0, 0, math.MaxInt, 0},
	} {
		p := made(t, c.in, c.out)
		got := p.Take(c.n)
		want := sums{c.in - c.out - c.want, c.in, c.out + c.want}
		if got != c.want || of(p) != want {
			t.Errorf("%s: Take(%d) = %d, %v; want %d, %v", c.name, c.n, got, of(p), c.want, want)
		}
	}
}

// P5.1
func TestAll(t *testing.T) {
	for _, c := range []sums{
		{0, 0, 0}, {10, 10, 0}, {7, 10, 3}, {1, 10, 9}, {0, 10, 10}, {top, top, 0}, {1, top, top - 1}, {0, top, top},
	} {
		p := made(t, c.in, c.out)
		if got := p.All(); got != c.has || of(p) != (sums{0, c.in, c.in}) {
			t.Errorf("All of %v = %d, %v", c, got, of(p))
		}
		if got := p.All(); got != 0 || of(p) != (sums{0, c.in, c.in}) {
			t.Errorf("All of %v once more = %d, %v", c, got, of(p))
		}
	}
}

// book is a purse with numbers that have no end.
type book struct{ in, out big.Int }

func (b *book) has() *big.Int {
	return new(big.Int).Sub(&b.in, &b.out)
}

func (b *book) sums() sums {
	return sums{int(b.has().Int64()), int(b.in.Int64()), int(b.out.Int64())}
}

func (b *book) put(n int) bool {
	in := new(big.Int).Add(&b.in, big.NewInt(int64(n)))
	if n < 0 || in.Cmp(big.NewInt(top)) > 0 {
		return false
	}
	b.in.Set(in)
	return true
}

func (b *book) take(n int) int {
	taken := b.has()
	if want := big.NewInt(int64(max(n, 0))); want.Cmp(taken) < 0 {
		taken = want
	}
	b.out.Add(&b.out, taken)
	return int(taken.Int64())
}

func (b *book) copy() *book {
	c := new(book)
	c.in.Set(&b.in)
	c.out.Set(&b.out)
	return c
}

// P5.1 and P5.2: whatever is done one behind the other. Each branch goes on
// with a copy, so that the copies don't touch each other either.
func TestPurseOfEdges(t *testing.T) {
	var goOn func(depth int, p purse.Purse, b *book)
	goOn = func(depth int, p purse.Purse, b *book) {
		if of(p) != b.sums() {
			t.Fatalf("a purse is %v; want %v", of(p), b.sums())
		}
		if depth == 0 {
			return
		}
		for _, n := range edges {
			put, bookPut := p, b.copy()
			if got, want := put.Put(n), bookPut.put(n); got != want {
				t.Fatalf("Put(%d) into %v = %v; want %v", n, of(p), got, want)
			}
			goOn(depth-1, put, bookPut)
			took, bookTook := p, b.copy()
			if got, want := took.Take(n), bookTook.take(n); got != want {
				t.Fatalf("Take(%d) of %v = %d; want %d", n, of(p), got, want)
			}
			goOn(depth-1, took, bookTook)
		}
		emptied, bookEmptied := p, b.copy()
		if got, want := emptied.All(), bookEmptied.take(math.MaxInt); got != want {
			t.Fatalf("All of %v = %d; want %d", of(p), got, want)
		}
		goOn(depth-1, emptied, bookEmptied)
	}
	goOn(3, purse.Purse{}, new(book))
	for _, n := range edges {
		b := new(book)
		b.put(n)
		goOn(2, purse.Of(n), b)
	}
}

// P5.2: asking changes nothing.
func TestAskingChangesNothing(t *testing.T) {
	p := made(t, 10, 4)
	for range 3 {
		if p.Has() != 6 || p.In() != 10 || p.Out() != 4 {
			t.Error("asked again", of(p))
		}
	}
}

// A Purse is a value.
func TestCopyGoesOnByItself(t *testing.T) {
	first := made(t, 10, 4)
	second := first
	if of(second) != (sums{6, 10, 4}) {
		t.Error("a copy", of(second))
	}
	first.Put(5)
	if of(first) != (sums{11, 15, 4}) || of(second) != (sums{6, 10, 4}) {
		t.Error("Put into the one that it was made of", of(first), of(second))
	}
	second.All()
	if of(first) != (sums{11, 15, 4}) || of(second) != (sums{0, 10, 10}) {
		t.Error("All of the copy", of(first), of(second))
	}
	if got := purse.Move(3, &first, &second); got != 3 || of(first) != (sums{8, 15, 7}) || of(second) != (sums{3, 13, 10}) {
		t.Error("Move from one to its copy", got, of(first), of(second))
	}
	row := [2]purse.Purse{first, second}
	other := row
	row[0].All()
	if of(other[0]) != (sums{8, 15, 7}) || of(first) != (sums{8, 15, 7}) {
		t.Error("copies in an array", of(other[0]), of(first))
	}
}

// moved holds one Move against what from and each of to are behind it.
func moved(t *testing.T, name string, n int, from purse.Purse, to []purse.Purse, went int, wantFrom sums, wantTo ...sums) {
	t.Helper()
	pointers := make([]*purse.Purse, len(to))
	for i := range to {
		pointers[i] = &to[i]
	}
	if got := purse.Move(n, &from, pointers...); got != went {
		t.Errorf("%s: Move(%d) = %d; want %d", name, n, got, went)
	}
	if of(from) != wantFrom {
		t.Errorf("%s: from is %v; want %v", name, of(from), wantFrom)
	}
	for i, p := range to {
		if of(p) != wantTo[i] {
			t.Errorf("%s: number %d of to is %v; want %v", name, i, of(p), wantTo[i])
		}
	}
}

// P5.3
func TestMove(t *testing.T) {
	some := func() purse.Purse { return made(t, 10, 4) }
	room := func(n int) purse.Purse { return made(t, top-n, 0) }
	type list = []purse.Purse
	full := sums{top, top, 0}

	moved(t, "some", 2, some(), list{purse.Of(1)}, 2, sums{4, 10, 6}, sums{3, 3, 0})
	moved(t, "all", 6, some(), list{purse.Of(1)}, 6, sums{0, 10, 10}, sums{7, 7, 0})
	moved(t, "more than there is", 7, some(), list{purse.Of(1)}, 6, sums{0, 10, 10}, sums{7, 7, 0})
	moved(t, "nothing", 0, some(), list{purse.Of(1)}, 0, sums{6, 10, 4}, sums{1, 1, 0})
	moved(t, "of an empty one", 5, purse.Purse{}, list{purse.Of(1)}, 0, sums{}, sums{1, 1, 0})
	moved(t, "all of Top", top, purse.Of(top), list{{}}, top, sums{0, top, top}, full)

	moved(t, "the first has all", 2, some(), list{{}, {}}, 2, sums{4, 10, 6}, sums{2, 2, 0}, sums{})
	moved(t, "the first has just room", 2, some(), list{room(2), {}}, 2, sums{4, 10, 6}, full, sums{})
	moved(t, "a cent too little room: none of it, the next one", 2, some(), list{room(1), {}}, 2, sums{4, 10, 6}, sums{top - 1, top - 1, 0}, sums{2, 2, 0})
	moved(t, "the last of several", 2, some(), list{room(1), room(0), room(2)}, 2, sums{4, 10, 6}, sums{top - 1, top - 1, 0}, full, full)
	moved(t, "one in the middle", 2, some(), list{room(0), room(3), room(9)}, 2, sums{4, 10, 6}, full, sums{top - 1, top - 1, 0}, sums{top - 9, top - 9, 0})
	moved(t, "what is out leaves no room", 2, some(), list{made(t, top, top), {}}, 2, sums{4, 10, 6}, sums{0, top, top}, sums{2, 2, 0})
	moved(t, "room for what there is, if not for n", 99, some(), list{room(6)}, 6, sums{0, 10, 10}, full)

	moved(t, "to none", 2, some(), nil, 0, sums{6, 10, 4})
	moved(t, "to none, all of it", math.MaxInt, some(), list{}, 0, sums{6, 10, 4})
	moved(t, "to one without room", 2, some(), list{room(1)}, 0, sums{6, 10, 4}, sums{top - 1, top - 1, 0})
	moved(t, "to several with room for it together alone", 2, some(), list{room(1), room(1)}, 0, sums{6, 10, 4}, sums{top - 1, top - 1, 0}, sums{top - 1, top - 1, 0})
	moved(t, "more than there is, to several without room", 99, some(), list{room(5), room(0)}, 0, sums{6, 10, 4}, sums{top - 5, top - 5, 0}, full)
	// A full from takes back what it could not be given by Put.
	moved(t, "of a full one, to one without room", 5, purse.Of(top), list{room(4)}, 0, full, sums{top - 4, top - 4, 0})
	moved(t, "of a full one out of which some went, to none", top, made(t, top, 3), nil, 0, sums{top - 3, top, 3})

	for _, n := range []int{-1, -4, -6, -top, math.MinInt, math.MinInt + 1} {
		moved(t, "below 0", n, some(), list{purse.Of(1), {}}, 0, sums{6, 10, 4}, sums{1, 1, 0}, sums{})
		moved(t, "below 0, to none", n, some(), nil, 0, sums{6, 10, 4})
	}
	for _, n := range []int{top, top + 1, math.MaxInt - 1, math.MaxInt} {
		moved(t, "far above what there is", n, some(), list{purse.Of(1), {}}, 6, sums{0, 10, 10}, sums{7, 7, 0}, sums{})
		moved(t, "far above what there is, no room", n, some(), list{room(5)}, 0, sums{6, 10, 4}, sums{top - 5, top - 5, 0})
	}
}

// P5.3: what was put back is there to be taken.
func TestMoveBackAndOn(t *testing.T) {
	from, to, full := purse.Of(10), purse.Purse{}, purse.Of(top)
	for range 3 {
		if got := purse.Move(8, &from, &full); got != 0 || of(from) != (sums{10, 10, 0}) {
			t.Error("put back", got, of(from))
		}
	}
	if got := purse.Move(8, &from, &full, &to); got != 8 || of(from) != (sums{2, 10, 8}) || of(to) != (sums{8, 8, 0}) {
		t.Error("to the next one", got, of(from), of(to))
	}
	if got := from.All(); got != 2 || of(from) != (sums{0, 10, 10}) {
		t.Error("the rest", got, of(from))
	}
	if of(full) != (sums{top, top, 0}) {
		t.Error("the full one", of(full))
	}
}

// P5.3: nil ones.
func TestMoveOfNil(t *testing.T) {
	from, to, full := purse.Of(10), purse.Purse{}, purse.Of(top)
	if got := purse.Move(1, &from, nil, &to); got != 1 || of(to) != (sums{1, 1, 0}) {
		t.Error("nil ahead", got, of(to))
	}
	if got := purse.Move(1, &from, &to, nil); got != 1 || of(to) != (sums{2, 2, 0}) {
		t.Error("nil behind", got, of(to))
	}
	if got := purse.Move(1, &from, nil, &full, nil, nil, &to, nil); got != 1 || of(to) != (sums{3, 3, 0}) {
		t.Error("nil between", got, of(to))
	}
	if got := purse.Move(1, &from, &full, nil); got != 0 {
		t.Error("nil behind one without room", got)
	}
	if got := purse.Move(1, &from, nil, nil); got != 0 {
		t.Error("nil alone", got)
	}
	if got := purse.Move(1, &from, nil); got != 0 {
		t.Error("one nil", got)
	}
	if of(from) != (sums{7, 10, 3}) {
		t.Error("from", of(from))
	}
	for _, n := range edges {
		if got := purse.Move(n, nil, &to, &full); got != 0 {
			t.Errorf("Move(%d) of a nil from = %d", n, got)
		}
		if purse.Move(n, nil) != 0 || purse.Move(n, nil, nil) != 0 {
			t.Errorf("Move(%d) of a nil from to none", n)
		}
	}
	if of(to) != (sums{3, 3, 0}) || of(full) != (sums{top, top, 0}) {
		t.Error("of a nil from something went", of(to), of(full))
	}
}

// P5.3: one that is named twice has it once.
func TestMoveToOneNamedTwice(t *testing.T) {
	from, to, full := purse.Of(10), purse.Purse{}, purse.Of(top)
	if got := purse.Move(4, &from, &full, &to, &full, &to); got != 4 || of(from) != (sums{6, 10, 4}) || of(to) != (sums{4, 4, 0}) {
		t.Error(got, of(from), of(to))
	}
}

// P5.3 with numbers that have no end: every n and every room.
func TestMoveOfEdges(t *testing.T) {
	ins := []int{0, 1, 2, 3, top/2 - 1, top / 2, top - 2, top - 1, top}
	for _, n := range edges {
		for _, in := range ins {
			for _, first := range ins {
				for _, second := range ins {
					p := [3]purse.Purse{purse.Of(in), purse.Of(first), purse.Of(second)}
					var b [3]book
					for i, m := range []int{in, first, second} {
						b[i].put(m)
						b[i].take(1)
						p[i].Take(1)
					}
					want := b[0].take(n)
					if !b[1].put(want) && !b[2].put(want) {
						b[0].out.Sub(&b[0].out, big.NewInt(int64(want)))
						want = 0
					}
					got := purse.Move(n, &p[0], &p[1], &p[2])
					for i := range p {
						if got != want || of(p[i]) != b[i].sums() {
							t.Fatalf("Move(%d) of %d to %d, %d = %d; want %d; number %d is %v; want %v", n, in, first, second, got, want, i, of(p[i]), b[i].sums())
						}
					}
				}
			}
		}
	}
}

// The list of to is the caller's: neither it nor its spare room is written.
func TestMoveKeepsTheList(t *testing.T) {
	from, full, to, spare := purse.Of(10), purse.Of(top), purse.Purse{}, purse.Purse{}
	whole := []*purse.Purse{nil, &full, &to, &spare, nil}
	before := slices.Clone(whole)
	if got := purse.Move(4, &from, whole[:3]...); got != 4 || of(to) != (sums{4, 4, 0}) {
		t.Error("Move", got, of(to))
	}
	if got := purse.Move(4, &from, whole[:2]...); got != 0 {
		t.Error("Move into what lies behind the list", got)
	}
	if !slices.Equal(whole, before) || of(to) != (sums{4, 4, 0}) || of(spare) != (sums{}) {
		t.Error("the list", whole, of(to), of(spare))
	}
}

// holder is one of the types that have a purse without a name for it.
type holder struct {
	name string
	purse.Purse
}

// What embeds a purse has its calls, and can be moved from and to.
func TestEmbedded(t *testing.T) {
	var zero holder
	if of(zero.Purse) != (sums{}) || !zero.Put(3) || zero.Has() != 3 {
		t.Error("embedded and zero", of(zero.Purse))
	}
	h := holder{"h", purse.Of(10)}
	if h.Take(3) != 3 || !h.Put(5) || h.Has() != 12 || h.In() != 15 || h.Out() != 3 {
		t.Error("promoted", of(h.Purse))
	}
	other := h
	if purse.Move(2, &h.Purse, &other.Purse) != 2 || of(h.Purse) != (sums{10, 15, 5}) || of(other.Purse) != (sums{14, 17, 3}) {
		t.Error("moved", of(h.Purse), of(other.Purse))
	}
	if h.All() != 10 || h.All() != 0 || other.Has() != 14 {
		t.Error("All", of(h.Purse), of(other.Purse))
	}
}
