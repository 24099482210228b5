package word_test

import (
	"bytes"
	"math"
	"math/big"
	"slices"
	"testing"

	"cascade/word"
)

// edges are the ints around which a promise may break: the ends of int, each
// power of two and its neighbours, with either sign, and one with a different
// byte in each place.
func edges() []int {
	l := []int{
		math.MinInt, math.MinInt + 1, math.MaxInt, 0x0102030405060708, -0x0102030405060708,
		0x7edcba9876543210, 0x0080ff7f01fe0081,
	}
	for power := range 63 {
		for _, n := range []int{1<<power - 1, 1 << power, 1<<power + 1} {
			l = append(l, n, -n)
		}
	}
	slices.Sort(l)
	return slices.Compact(l)
}

// asBytes is what Bytes promises of l, made by numbers without end: what each
// int leaves over of 2^64, the highest byte first.
func asBytes(l []int) []byte {
	var b []byte
	all := new(big.Int).Lsh(big.NewInt(1), 64)
	for _, n := range l {
		rest := new(big.Int).Mod(big.NewInt(int64(n)), all)
		b = append(b, rest.FillBytes(make([]byte, 8))...)
	}
	return b
}

// says checks all that is told of ints: their bytes, and that those are these
// ints again; and that what was handed in stays as it was.
func says(t *testing.T, name string, l []int) {
	t.Helper()
	before, want := slices.Clone(l), asBytes(l)
	b := word.Bytes(l...)
	if !bytes.Equal(b, want) {
		t.Errorf("%s: Bytes(%v) = %v; want %v", name, l, b, want)
	}
	shows(t, name, want, before, true)
	if !slices.Equal(l, before) {
		t.Errorf("%s: turned from %v to %v", name, before, l)
	}
}

// shows checks what Ints tells of bytes, and that they stay as they were.
func shows(t *testing.T, name string, b []byte, want []int, ok bool) {
	t.Helper()
	before := bytes.Clone(b)
	if got, may := word.Ints(b); may != ok || !slices.Equal(got, want) {
		t.Errorf("%s: Ints(%v) = %v, %v; want %v, %v", name, b, got, may, want, ok)
	}
	if !bytes.Equal(b, before) {
		t.Errorf("%s: turned from %v to %v", name, before, b)
	}
}

// The chapter's runs.
func TestRuns(t *testing.T) {
	want := []byte{0, 0, 0, 0, 0, 0, 0, 1, 255, 255, 255, 255, 255, 255, 255, 255}
	if got := word.Bytes(1, -1); !bytes.Equal(got, want) {
		t.Errorf("Bytes(1, -1) = %v", got)
	}
	r := word.Read([]int{3, 9})
	stands(t, "ahead of the first", r, true, false)
	many(t, "the first", r, 5, 3)
	stands(t, "behind the first", r, true, false)
	many(t, "the second", r, 5, 0)
	stands(t, "behind the second", r, false, false)
}

// P12.1: the bytes of an int, told one by one.
func TestBytesOfOne(t *testing.T) {
	for _, c := range []struct {
		n    int
		want [8]byte
	}{
		{0, [8]byte{}},
		{1, [8]byte{7: 1}},
		{-1, [8]byte{255, 255, 255, 255, 255, 255, 255, 255}},
		{-2, [8]byte{255, 255, 255, 255, 255, 255, 255, 254}},
		{127, [8]byte{7: 127}},
		{128, [8]byte{7: 128}},
		{255, [8]byte{7: 255}},
		{256, [8]byte{6: 1}},
		{-255, [8]byte{255, 255, 255, 255, 255, 255, 255, 1}},
		{-256, [8]byte{255, 255, 255, 255, 255, 255, 255, 0}},
		{-257, [8]byte{255, 255, 255, 255, 255, 255, 254, 255}},
		{1<<31 - 1, [8]byte{4: 127, 5: 255, 6: 255, 7: 255}},
		{1 << 31, [8]byte{4: 128}},
		{1<<32 - 1, [8]byte{4: 255, 5: 255, 6: 255, 7: 255}},
		{1 << 32, [8]byte{3: 1}},
		{-1 << 31, [8]byte{255, 255, 255, 255, 128, 0, 0, 0}},
		{-1 << 32, [8]byte{255, 255, 255, 255, 0, 0, 0, 0}},
		{0x0102030405060708, [8]byte{1, 2, 3, 4, 5, 6, 7, 8}},
		{-0x0102030405060708, [8]byte{254, 253, 252, 251, 250, 249, 248, 248}},
		{0x7edcba9876543210, [8]byte{0x7e, 0xdc, 0xba, 0x98, 0x76, 0x54, 0x32, 0x10}},
		{math.MaxInt, [8]byte{127, 255, 255, 255, 255, 255, 255, 255}},
		{math.MaxInt - 1, [8]byte{127, 255, 255, 255, 255, 255, 255, 254}},
		{math.MinInt, [8]byte{128, 0, 0, 0, 0, 0, 0, 0}},
		{math.MinInt + 1, [8]byte{128, 0, 0, 0, 0, 0, 0, 1}},
	} {
		if got := word.Bytes(c.n); !bytes.Equal(got, c.want[:]) {
			t.Errorf("Bytes(%d) = %v; want %v", c.n, got, c.want)
		}
		shows(t, "one", c.want[:], []int{c.n}, true)
	}
}

// P12.1: the bytes of no int, of one, of two beside each other, of many.
func TestBytes(t *testing.T) {
	if b := word.Bytes(); len(b) != 0 {
		t.Errorf("Bytes() = %v", b)
	}
	all := edges()
	says(t, "nil", nil)
	says(t, "empty", []int{})
	says(t, "all", all)
	says(t, "all, more than once", slices.Repeat(all, 20))
	for _, n := range all {
		says(t, "one", []int{n})
		for _, m := range all {
			says(t, "two", []int{n, m})
		}
	}
	for count := range 70 {
		says(t, "the first of all", all[:count])
		says(t, "the last of all", all[len(all)-count:])
		says(t, "as many of 0", make([]int, count))
	}
}

// P12.1: what lies behind the length of a list is no part of it.
func TestSpareRoom(t *testing.T) {
	l := []int{1, 2, 3, 4, 5}
	says(t, "ints", l[:2])
	if !slices.Equal(l, []int{1, 2, 3, 4, 5}) {
		t.Errorf("room behind the length turned to %v", l)
	}
	b := slices.Repeat([]byte{7}, 24)
	shows(t, "bytes", b[:8], []int{0x0707070707070707}, true)
	shows(t, "no bytes", b[:0], nil, true)
	shows(t, "not eight", b[:9], nil, false)
	if !bytes.Equal(b, slices.Repeat([]byte{7}, 24)) {
		t.Errorf("room behind the length turned to %v", b)
	}
	r := word.Read(l[:1])
	next(t, "the only one", r, 1)
	stands(t, "behind the only one", r, true, true)
	next(t, "none", r, 0)
	stands(t, "behind none", r, false, false)
	if !slices.Equal(l, []int{1, 2, 3, 4, 5}) {
		t.Errorf("room behind the length turned to %v", l)
	}
}

// P12.1: bytes of each length: those whose length is no multiple of eight are
// made of no ints.
func TestIntsOfEachLength(t *testing.T) {
	shows(t, "nil", nil, nil, true)
	shows(t, "empty", []byte{}, nil, true)
	for length := range 200 {
		for _, fill := range []byte{0, 1, 127, 128, 255} {
			b := slices.Repeat([]byte{fill}, length)
			one := int(int64(uint64(fill) * 0x0101010101010101))
			if length%8 == 0 {
				shows(t, "eights", b, slices.Repeat([]int{one}, length/8), true)
				continue
			}
			shows(t, "no eights", b, nil, false)
		}
	}
	for _, length := range []int{1<<16 - 1, 1 << 16, 1<<16 + 1, 1<<20 - 8, 1<<20 - 7} {
		want := make([]int, length/8)
		if length%8 != 0 {
			want = nil
		}
		shows(t, "long", make([]byte, length), want, length%8 == 0)
	}
}

// P12.3: what is put is got: bytes with anything at any place come of their
// ints again.
func TestBytesOfInts(t *testing.T) {
	for _, ground := range []byte{0, 1, 127, 128, 255} {
		for at := range 24 {
			for one := range 256 {
				b := slices.Repeat([]byte{ground}, 24)
				b[at] = byte(one)
				l, ok := word.Ints(b)
				if got := word.Bytes(l...); !ok || len(l) != 3 || !bytes.Equal(got, b) || !bytes.Equal(asBytes(l), b) {
					t.Fatalf("Bytes of Ints(%v) = %v, %v", b, got, ok)
				}
			}
		}
	}
}

// P12.3: and ints out of their bytes, by a Reader too.
func TestIntsOfBytes(t *testing.T) {
	l := edges()
	got, ok := word.Ints(word.Bytes(l...))
	if !ok || !slices.Equal(got, l) {
		t.Fatalf("Ints of Bytes(%v) = %v, %v", l, got, ok)
	}
	r := word.Read(got)
	for _, n := range l {
		next(t, "each", r, n)
	}
	stands(t, "behind all", r, true, true)
	b := word.Bytes(l...)
	for cut := range len(b) {
		want, may := l[:cut/8], cut%8 == 0
		if !may {
			want = nil
		}
		shows(t, "the first of them", b[:cut], want, may)
	}
}

// R2: an answer is the caller's own, and so is what was handed in.
func TestOwn(t *testing.T) {
	l := []int{1, -2, 3}
	b := word.Bytes(l...)
	want := bytes.Clone(b)
	l[0], l[2] = 9, 9
	if !bytes.Equal(b, want) {
		t.Errorf("bytes turned with the ints: %v", b)
	}
	again := word.Bytes(1, -2, 3)
	again[0] = 7
	_ = append(b[:8], 5, 5, 5)
	if fresh := word.Bytes(1, -2, 3); !bytes.Equal(fresh, want) {
		t.Errorf("Bytes(1, -2, 3) = %v", fresh)
	}
	in := bytes.Clone(want)
	got, _ := word.Ints(in)
	clear(in)
	if !slices.Equal(got, []int{1, -2, 3}) {
		t.Errorf("ints turned with the bytes: %v", got)
	}
	other, _ := word.Ints(want)
	other[1] = 8
	if !slices.Equal(got, []int{1, -2, 3}) || !bytes.Equal(want, word.Bytes(1, -2, 3)) {
		t.Errorf("two answers hang together: %v, %v", got, want)
	}
}

// stands checks what a reader tells of itself, more than once: asking changes
// nothing.
func stands(t *testing.T, name string, r *word.Reader, good, done bool) {
	t.Helper()
	for range 2 {
		if r.Good() != good || r.Done() != done {
			t.Errorf("%s: Good, Done = %v, %v; want %v, %v", name, r.Good(), r.Done(), good, done)
		}
	}
}

// next checks what Next answers.
func next(t *testing.T, name string, r *word.Reader, want int) {
	t.Helper()
	if got := r.Next(); got != want {
		t.Errorf("%s: Next = %d; want %d", name, got, want)
	}
}

// many checks what Many answers.
func many(t *testing.T, name string, r *word.Reader, most, want int) {
	t.Helper()
	if got := r.Many(most); got != want {
		t.Errorf("%s: Many(%d) = %d; want %d", name, most, got, want)
	}
}

// P12.2: Next, up to the last and once more, of no ints, one and many.
func TestNext(t *testing.T) {
	for _, l := range [][]int{nil, {}, {0}, {-1}, {5}, {math.MinInt}, {math.MaxInt}, {0, 0}, {3, 9}, {-7, 0, 5}, edges()} {
		r := word.Read(l)
		for i, n := range l {
			stands(t, "ahead of each", r, true, false)
			next(t, "each", r, n)
			stands(t, "behind each", r, true, i == len(l)-1)
		}
		stands(t, "behind the last", r, true, true)
		for range 3 {
			next(t, "none", r, 0)
			stands(t, "behind none", r, false, false)
		}
		many(t, "none", r, math.MaxInt, 0)
		stands(t, "behind all", r, false, false)
	}
}

// P12.2: Many, with each int next and each most: it is Next if that is 0 to
// most.
func TestMany(t *testing.T) {
	for _, c := range []struct{ n, most, want int }{
		{0, 5, 0}, {4, 5, 4}, {5, 5, 5}, {6, 5, -1}, {-1, 5, -1}, {1, 5, 1},
		{0, 0, 0}, {1, 0, -1}, {-1, 0, -1},
		{0, -1, -1}, {-1, -1, -1}, {-2, -1, -1}, {1, -1, -1}, {math.MaxInt, -1, -1},
		{0, math.MinInt, -1}, {math.MinInt, math.MinInt, -1}, {math.MaxInt, math.MinInt, -1},
		{0, math.MaxInt, 0}, {math.MaxInt - 1, math.MaxInt, math.MaxInt - 1}, {math.MaxInt, math.MaxInt, math.MaxInt},
		{math.MinInt, math.MaxInt, -1}, {-1, math.MaxInt, -1},
		{math.MaxInt, math.MaxInt - 1, -1}, {math.MinInt, 5, -1}, {1<<32 + 1, 5, -1},
	} {
		counts(t, c.n, c.most, c.want)
	}
	all := edges()
	for _, most := range all {
		for _, n := range append([]int{most - 1, most, most + 1}, all...) {
			want := -1
			if 0 <= n && n <= most {
				want = n
			}
			counts(t, n, most, want)
		}
	}
}

// counts checks Many(most) with n next, as the last and with another behind
// it. A want below 0 is a refusal.
func counts(t *testing.T, n, most, want int) {
	t.Helper()
	good := want >= 0
	last := word.Read([]int{n})
	many(t, "the last", last, most, max(want, 0))
	stands(t, "behind the last", last, good, good)
	ahead := word.Read([]int{n, 8})
	many(t, "the first", ahead, most, max(want, 0))
	stands(t, "behind the first", ahead, good, false)
	behind := word.Read([]int{-8, n})
	next(t, "the one ahead", behind, -8)
	many(t, "the second", behind, most, max(want, 0))
	stands(t, "behind the second", behind, good, good)
	if good {
		next(t, "the second", ahead, 8)
		stands(t, "behind both", ahead, true, true)
	}
}

// P12.2: Many with nothing left isn't good, whatever the most is.
func TestManyOfNone(t *testing.T) {
	for _, most := range []int{math.MinInt, -1, 0, 1, 5, math.MaxInt} {
		for _, l := range [][]int{nil, {}, {4}} {
			r := word.Read(l)
			for _, n := range l {
				next(t, "the only one", r, n)
			}
			stands(t, "ahead of none", r, true, true)
			many(t, "none", r, most, 0)
			stands(t, "behind none", r, false, false)
		}
	}
}

// P12.2: behind a false Good both answer 0 and read nothing, though ints are
// left, and it stays false.
func TestBehindFalse(t *testing.T) {
	for _, c := range []struct {
		l    []int
		most int
	}{
		{[]int{9, 1, 2, 3}, 5},
		{[]int{-1, 1, 2, 3}, 5},
		{[]int{6, 5}, 5},
		{[]int{0, 1, 2, 3}, -1},
		{[]int{1, 1, 1, 1}, 0},
		{[]int{math.MinInt, 1, 2, 3}, math.MaxInt},
	} {
		r := word.Read(c.l)
		many(t, "the refused one", r, c.most, 0)
		stands(t, "behind the refused one", r, false, false)
		for range len(c.l) + 2 {
			next(t, "behind false", r, 0)
			stands(t, "behind false", r, false, false)
			many(t, "behind false", r, math.MaxInt, 0)
			stands(t, "behind false", r, false, false)
			many(t, "behind false", r, -1, 0)
			stands(t, "behind false", r, false, false)
		}
	}
}

// P12.2: good, but not all read: not done.
func TestNotDone(t *testing.T) {
	r := word.Read([]int{2, 0, 4})
	many(t, "the first", r, 2, 2)
	stands(t, "two left", r, true, false)
	many(t, "the second", r, 2, 0)
	stands(t, "one left", r, true, false)
	many(t, "the third", r, 4, 4)
	stands(t, "none left", r, true, true)
}

// model is a reader by the chapter's words: its list, how many of it are
// read, and whether it is good.
type model struct {
	l    []int
	at   int
	good bool
}

func (m *model) next() int {
	if !m.good {
		return 0
	}
	if m.at == len(m.l) {
		m.good = false
		return 0
	}
	m.at++
	return m.l[m.at-1]
}

func (m *model) many(most int) int {
	n := m.next()
	if !m.good {
		return 0
	}
	if 0 <= n && n <= most {
		return n
	}
	m.good = false
	return 0
}

func (m *model) done() bool {
	return m.good && m.at == len(m.l)
}

// P12.2: each list of up to three of some ints, with each four calls one
// behind the other.
func TestEachWay(t *testing.T) {
	ints := []int{math.MinInt, -1, 0, 1, 2, math.MaxInt}
	mosts := []int{math.MinInt, -1, 0, 1, math.MaxInt}
	for _, l := range eachList(ints, 3) {
		ways := len(mosts) + 1
		for way := range ways * ways * ways * ways {
			r, m := word.Read(l), &model{l: l, good: true}
			for range 4 {
				stands(t, "ahead of a call", r, m.good, m.done())
				if kind := way % ways; kind < len(mosts) {
					many(t, "a way", r, mosts[kind], m.many(mosts[kind]))
				} else {
					next(t, "a way", r, m.next())
				}
				way /= ways
			}
			stands(t, "behind the calls", r, m.good, m.done())
		}
	}
}

// eachList is each list of up to length of these ints.
func eachList(ints []int, length int) [][]int {
	all, ahead := [][]int{nil}, 0
	for range length {
		from := all[ahead:]
		ahead = len(all)
		for _, l := range from {
			for _, n := range ints {
				all = append(all, append(slices.Clone(l), n))
			}
		}
	}
	return all
}

// R2: a reader has its own copy, changes nothing of what it was handed, and
// hangs together with no other one.
func TestReadersOwn(t *testing.T) {
	l := []int{1, 2, 3}
	r, other := word.Read(l), word.Read(l)
	l[0] = 7
	next(t, "the first", r, 1)
	many(t, "refused", other, 0, 0)
	l[1], l[2] = 8, 9
	next(t, "the second", r, 2)
	_ = append(l[:2], 10)
	many(t, "the third", r, 3, 3)
	stands(t, "behind all", r, true, true)
	stands(t, "the other", other, false, false)
	if !slices.Equal(l, []int{7, 8, 10}) {
		t.Errorf("the list turned to %v", l)
	}
	fresh := word.Read(l)
	next(t, "a fresh one", fresh, 7)
	stands(t, "a fresh one", fresh, true, false)
}
