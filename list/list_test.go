package list_test

import (
	"bytes"
	"encoding/binary"
	"math"
	"math/rand/v2"
	"slices"
	"testing"

	"allotment/api"
	"allotment/list"
	"allotment/mem"
)

const (
	size     = 2048
	lastLink = size - 8 // the greatest address whose link is within memory
	greatest = ^uint64(0)
)

// made is memory in which each byte differs from those near it.
func made(t *testing.T) *mem.Mem {
	t.Helper()
	m, e := mem.New(size)
	if e != api.OK {
		t.Fatal(e)
	}
	b := make([]byte, size)
	for i := range b {
		b[i] = byte(i*7 + i>>8 + 1)
	}
	want(t, "Put", m.Put(0, b...), api.OK)
	return m
}

// linked writes a chain of some blocks, the last one's link being end, and answers it as a list.
func linked(t *testing.T, m *mem.Mem, end uint64, addr ...uint64) *list.List {
	t.Helper()
	l := &list.List{N: len(addr)}
	for i, a := range addr {
		next := end
		if i+1 < len(addr) {
			next = addr[i+1]
		}
		want(t, "Store", m.Store(a, 8, next), api.OK)
	}
	if len(addr) > 0 {
		l.Head = addr[0]
	}
	return l
}

// told is all bytes of a memory.
func told(t *testing.T, m *mem.Mem) []byte {
	t.Helper()
	b, e := m.Get(0, m.Size())
	if e != api.OK {
		t.Fatal(e)
	}
	return b
}

func want(t *testing.T, what string, e, f api.Errno) {
	t.Helper()
	if e != f {
		t.Errorf("%s: error %d; wanted %d", what, e, f)
	}
}

func is(t *testing.T, what string, l, o list.List) {
	t.Helper()
	if l != o {
		t.Errorf("%s: %+v; wanted %+v", what, l, o)
	}
}

func holds(t *testing.T, what string, m *mem.Mem, b []byte) {
	t.Helper()
	for i, c := range told(t, m) {
		if c != b[i] {
			t.Fatalf("%s: at %d stands %d; wanted %d", what, i, c, b[i])
		}
	}
}

// alls says that a list is right, and has those blocks.
func alls(t *testing.T, l *list.List, m *mem.Mem, addr ...uint64) {
	t.Helper()
	if got, e := l.All(m); e != api.OK || !slices.Equal(got, addr) || l.N != len(addr) {
		t.Errorf("All of %+v: %v, error %d; wanted %v", *l, got, e, addr)
	}
}

func pops(t *testing.T, l *list.List, m *mem.Mem, addr uint64, f api.Errno) {
	t.Helper()
	was := *l
	if got, e := l.Pop(m); got != addr || e != f {
		t.Errorf("Pop of %+v: %d, error %d; wanted %d, error %d", was, got, e, addr, f)
	}
}

func chains(t *testing.T, m *mem.Mem, head uint64, most int, l list.List, f api.Errno) {
	t.Helper()
	if got, e := list.Chain(m, head, most); got != l || e != f {
		t.Errorf("Chain(%d, %d): %+v, error %d; wanted %+v, error %d", head, most, got, e, l, f)
	}
}

// wrongs says that a list isn't right: All and Join refuse it, and change nothing.
func wrongs(t *testing.T, m *mem.Mem, l list.List) {
	t.Helper()
	b, was := told(t, m), l
	if got, e := l.All(m); len(got) != 0 || e != api.ErrRange {
		t.Errorf("All of %+v: %v, error %d", was, got, e)
	}
	for _, o := range []list.List{{}, {Head: 8, N: 1}} {
		p := o
		want(t, "Join", p.Join(m, &l), api.ErrRange)
		is(t, "the list that a Join didn't change", p, o)
	}
	is(t, "a list that isn't right", l, was)
	holds(t, "a list that isn't right", m, b)
}

// beyond are addresses whose link isn't within memory; some wrap round.
func beyond() []uint64 {
	return []uint64{lastLink + 1, lastLink + 2, lastLink + 7, size, size + 1, size + 8, api.MaxSize - 8, api.MaxSize, 1 << 32, 1<<32 + 16, 1 << 63, 1<<63 + 16, greatest - 16, greatest - 8, greatest - 7, greatest - 6, greatest - 1, greatest}
}

// mosts are numbers that are as many as a memory has bytes, or more.
func mosts() []int {
	return []int{size, size + 1, api.MaxSize, api.MaxSize + 1, 1 << 32, 1 << 62, math.MaxInt - 1, math.MaxInt}
}

// negatives are numbers below 0.
func negatives() []int {
	return []int{-1, -2, -size, math.MinInt32, math.MinInt + 1, math.MinInt}
}

// The chapter's examples.
func TestExamples(t *testing.T) {
	m, l := made(t), &list.List{}
	want(t, "Push", l.Push(m, 16, 32), api.OK)
	alls(t, l, m, 32, 16)
	for _, x := range [][2]uint64{{32, 16}, {16, 0}} {
		if link, e := m.Load(x[0], 8); link != x[1] || e != api.OK {
			t.Errorf("at %d stands %d, error %d; wanted %d", x[0], link, e, x[1])
		}
	}
}

// Of a nil List, or Mem, or o: ErrNil, ahead of all else, and nothing is done.
func TestNil(t *testing.T) {
	m, b := made(t), told(t, made(t))
	for _, l := range []list.List{{}, {Head: 16, N: 1}, {Head: 16}, {Head: greatest, N: 3}, {N: -1}} {
		for _, x := range []struct {
			l *list.List
			m *mem.Mem
		}{{nil, m}, {&l, nil}, {nil, nil}} {
			was, other := l, list.List{Head: 24, N: 1}
			for _, addr := range [][]uint64{nil, {}, {0}, {16}, {greatest}, {16, 32}} {
				want(t, "Push", x.l.Push(x.m, addr...), api.ErrNil)
			}
			addr, e := x.l.Pop(x.m)
			if addr != 0 {
				t.Errorf("Pop: %d", addr)
			}
			want(t, "Pop", e, api.ErrNil)
			all, e := x.l.All(x.m)
			if len(all) != 0 {
				t.Errorf("All: %v", all)
			}
			want(t, "All", e, api.ErrNil)
			for _, o := range []*list.List{&other, x.l, nil} {
				want(t, "Join", x.l.Join(x.m, o), api.ErrNil)
			}
			is(t, "of nil", l, was)
			is(t, "of nil", other, list.List{Head: 24, N: 1})
		}
		was := l
		want(t, "Join of nil", l.Join(m, nil), api.ErrNil)
		is(t, "Join of nil", l, was)
	}
	for _, head := range []uint64{0, 16, greatest} {
		for _, most := range append(negatives(), 0, 1, math.MaxInt) {
			chains(t, nil, head, most, list.List{}, api.ErrNil)
		}
	}
	holds(t, "of nil", m, b)
}

// A Mem that New didn't make has no bytes, but is one.
func TestZeroValueOfMem(t *testing.T) {
	m, l := &mem.Mem{}, &list.List{}
	alls(t, l, m)
	chains(t, m, 0, 3, list.List{}, api.OK)
	chains(t, m, 8, 3, list.List{}, api.ErrRange)
	want(t, "Push", l.Push(m, 8), api.ErrRange)
	is(t, "Push", *l, list.List{})
}

// P7.1: one by one, the last one first; what was Head is its link, and no other byte changes.
func TestPush(t *testing.T) {
	m, l := made(t), &list.List{}
	b := told(t, m)
	rows := [][]uint64{{48}, {16, 40}, nil, {}, {1000, 24, 32}, {lastLink}, {1}, {1019}}
	var all []uint64
	for _, row := range rows {
		for _, addr := range row {
			head := uint64(0)
			if len(all) > 0 {
				head = all[0]
			}
			binary.LittleEndian.PutUint64(b[addr:], head)
			all = slices.Insert(all, 0, addr)
		}
		want(t, "Push", l.Push(m, row...), api.OK)
		holds(t, "Push", m, b)
		if len(all) > 0 {
			alls(t, l, m, all...)
			is(t, "Push", *l, list.List{Head: all[0], N: len(all)})
		}
	}
}

// P7.1: of none nothing changes, whatever the list is.
func TestPushOfNone(t *testing.T) {
	m := made(t)
	b := told(t, m)
	for _, l := range []list.List{{}, {Head: 16, N: 1}, {Head: greatest, N: 7}, {N: -1}} {
		was := l
		want(t, "Push", l.Push(m), api.OK)
		want(t, "Push", l.Push(m, []uint64{}...), api.OK)
		is(t, "Push of none", l, was)
	}
	holds(t, "Push of none", m, b)
}

// P7.1: an address whose link is just within memory is in; one byte further, and all that are beyond, aren't; address 0 isn't either.
func TestPushOfAddressesThatMayNotBe(t *testing.T) {
	for _, no := range append(beyond(), 0) {
		f := api.ErrRange
		if no == 0 {
			f = api.ErrArg
		}
		m, l := made(t), &list.List{}
		b := told(t, m)
		want(t, "Push", l.Push(m, no), f)
		want(t, "Push", l.Push(m, no, 16), f)
		is(t, "Push", *l, list.List{})
		holds(t, "Push", m, b)

		want(t, "Push", l.Push(m, lastLink), api.OK)
		want(t, "Push", l.Push(m, 16, 32, no, 48, 0, greatest), f)
		alls(t, l, m, 32, 16, lastLink)
		binary.LittleEndian.PutUint64(b[lastLink:], 0)
		binary.LittleEndian.PutUint64(b[16:], lastLink)
		binary.LittleEndian.PutUint64(b[32:], 16)
		holds(t, "those ahead", m, b)
	}
}

// P7.1: of two that may not be, the first one tells.
func TestPushTellsTheFirst(t *testing.T) {
	m, l := made(t), &list.List{}
	want(t, "Push", l.Push(m, 8, 0, greatest), api.ErrArg)
	want(t, "Push", l.Push(m, 16, greatest, 0), api.ErrRange)
	alls(t, l, m, 16, 8)
}

// P7.1: the same address twice is its own link then: such a list is not right, and yet Pop takes it as often as it is told.
func TestPushOfTheSame(t *testing.T) {
	m, l := made(t), &list.List{}
	want(t, "Push", l.Push(m, 8, 16, 16), api.OK)
	is(t, "Push", *l, list.List{Head: 16, N: 3})
	wrongs(t, m, *l)
	for _, most := range append(mosts(), 0, 1, 3) {
		chains(t, m, 16, most, list.List{}, api.ErrRange)
	}
	for range 3 {
		pops(t, l, m, 16, api.OK)
	}
	is(t, "Pop", *l, list.List{Head: 16})
	pops(t, l, m, 0, api.ErrNone)
	wrongs(t, m, *l)
}

// P7.1 and P7.3: what is pushed last is popped first, the last block too; memory stays.
func TestPop(t *testing.T) {
	m, l := made(t), &list.List{}
	row := []uint64{16, lastLink, 1, 1000, 40, 1023}
	want(t, "Push", l.Push(m, row...), api.OK)
	b := told(t, m)
	for n := len(row); n > 0; n-- {
		pops(t, l, m, row[n-1], api.OK)
		rest := slices.Clone(row[:n-1])
		slices.Reverse(rest)
		alls(t, l, m, rest...)
	}
	is(t, "Pop of the last block", *l, list.List{})
	for range 3 {
		pops(t, l, m, 0, api.ErrNone)
	}
	is(t, "Pop of none", *l, list.List{})
	want(t, "Push", l.Push(m, 16), api.OK)
	pops(t, l, m, 16, api.OK)
	holds(t, "Pop", m, b)
}

// P7.1: ErrNone of an N of 0, whatever Head is; ErrRange, where Head's link isn't within memory; nothing changes.
func TestPopThatIsRefused(t *testing.T) {
	m := made(t)
	b := told(t, m)
	for _, head := range append(beyond(), 0, 16, lastLink) {
		l := list.List{Head: head}
		pops(t, &l, m, 0, api.ErrNone)
		is(t, "Pop", l, list.List{Head: head})
	}
	for _, head := range beyond() {
		for _, n := range append(append(negatives(), mosts()...), 1, 2) {
			l := list.List{Head: head, N: n}
			pops(t, &l, m, 0, api.ErrRange)
			is(t, "Pop", l, list.List{Head: head, N: n})
		}
	}
	holds(t, "Pop", m, b)
}

// P7.1: a Pop asks Head's link alone, whatever hangs on it, and whatever N is but 0.
func TestPopOfListsThatAreNotRight(t *testing.T) {
	m := made(t)
	want(t, "Store", m.Store(16, 8, greatest), api.OK)
	want(t, "Store", m.Store(lastLink, 8, 16), api.OK)
	b := told(t, m)
	for _, n := range []int{2, 3, size + 5, math.MaxInt, -1, -5} {
		l := list.List{Head: lastLink, N: n}
		pops(t, &l, m, lastLink, api.OK)
		is(t, "Pop", l, list.List{Head: 16, N: n - 1})
		pops(t, &l, m, 16, api.OK)
		is(t, "Pop", l, list.List{Head: greatest, N: n - 2})
		if l.N != 0 {
			pops(t, &l, m, 0, api.ErrRange)
		}
		is(t, "Pop", l, list.List{Head: greatest, N: n - 2})
	}
	holds(t, "Pop", m, b)
}

// P7.2: an empty list has none, and is refused if it has a Head.
func TestAllOfNone(t *testing.T) {
	m := made(t)
	alls(t, &list.List{}, m)
	for _, head := range append(beyond(), 8, 16, lastLink) {
		wrongs(t, m, list.List{Head: head})
	}
}

// P7.2: lists of one, of two, and of more, up to the last link, rising and falling, and with links side by side.
func TestAll(t *testing.T) {
	for _, row := range [][]uint64{{8}, {1}, {lastLink}, {16, 8}, {8, 16}, {lastLink, 1, 1000}, {lastLink - 8, lastLink, 1016, 1024, 24, 32, 9}} {
		m := made(t)
		l := linked(t, m, 0, row...)
		b := told(t, m)
		alls(t, l, m, row...)
		alls(t, l, m, row...)
		holds(t, "All", m, b)
	}
}

// P7.2: as many blocks as stand apart in the greatest memory.
func TestVeryLongLists(t *testing.T) {
	m, e := mem.New(api.MaxSize)
	if e != api.OK {
		t.Fatal(e)
	}
	var row []uint64
	for addr := uint64(8); addr < api.MaxSize; addr += 8 {
		row = append(row, addr)
	}
	l := &list.List{}
	want(t, "Push", l.Push(m, row...), api.OK)
	slices.Reverse(row)
	alls(t, l, m, row...)
	chains(t, m, l.Head, l.N, *l, api.OK)
	chains(t, m, l.Head, math.MaxInt, *l, api.OK)
	chains(t, m, l.Head, l.N-1, list.List{}, api.ErrRange)
	o := &list.List{}
	want(t, "Join", o.Join(m, l), api.OK)
	alls(t, o, m, row...)
	want(t, "Store", m.Store(8, 8, o.Head), api.OK)
	for _, most := range []int{o.N, api.MaxSize, math.MaxInt} {
		wrongs(t, m, list.List{Head: o.Head, N: most})
		chains(t, m, o.Head, most, list.List{}, api.ErrRange)
	}
}

// P7.2: links may lie over one another: what memory tells counts.
func TestLinksThatMeet(t *testing.T) {
	m, _ := mem.New(api.Slice)
	want(t, "Store", m.Store(256, 2, 0x0101), api.OK) // the link of 256 tells 257, that of 257 1, that of 1 0
	chains(t, m, 256, 3, list.List{Head: 256, N: 3}, api.OK)
	chains(t, m, 256, 2, list.List{}, api.ErrRange)
	alls(t, &list.List{Head: 256, N: 3}, m, 256, 257, 1)
	chains(t, m, 255, 9, list.List{}, api.ErrRange) // its link tells 65792
}

// P7.2: a list whose chain is shorter or longer than N, whatever stands there, N below 0 and far above too.
func TestListsOfAnotherLength(t *testing.T) {
	m := made(t)
	l := linked(t, m, 0, 16, 1000, 8, lastLink, 56)
	alls(t, l, m, 16, 1000, 8, lastLink, 56)
	for _, n := range append(append(negatives(), mosts()...), 0, 1, 2, 4, 6, 7, 100) {
		wrongs(t, m, list.List{Head: 16, N: n})
	}
	for _, n := range append(append(negatives(), mosts()...), 1, 2) {
		wrongs(t, m, list.List{N: n})
	}
	// An N that is the right one but for what is cut off of it.
	for _, n := range []int{5 + 1<<32, 5 - 1<<32, 5 + 1<<8, 5 + 1<<16, 5 + size, 5 + api.MaxSize, math.MinInt + 5, -5} {
		wrongs(t, m, list.List{Head: 16, N: n})
	}
}

// P7.2: a link that was written over, at any place of a list, by what leads out of memory, back, to itself, or to another chain.
func TestLinksThatWereWrittenOver(t *testing.T) {
	row := []uint64{16, 1000, 8, lastLink, 56}
	for i, addr := range row {
		for _, no := range append(beyond(), append(slices.Clone(row[:i+1]), 0)...) {
			m := made(t)
			l := linked(t, m, 0, row...)
			want(t, "Store", m.Store(addr, 8, no), api.OK)
			if no == 0 {
				if i == len(row)-1 {
					continue // so the list is as it was
				}
				chains(t, m, l.Head, l.N, list.List{Head: l.Head, N: i + 1}, api.OK)
				wrongs(t, m, *l)
				continue
			}
			wrongs(t, m, *l)
			for _, n := range append(mosts(), i, i+1, i+2, len(row)+1) {
				wrongs(t, m, list.List{Head: l.Head, N: n})
				chains(t, m, l.Head, n, list.List{}, api.ErrRange)
			}
		}
	}
}

// P7.2: a link that leads past some blocks, or to others, changes how many there are.
func TestLinksThatLeadElsewhere(t *testing.T) {
	m := made(t)
	l := linked(t, m, 0, 16, 1000, 8, 40)
	linked(t, m, 0, 200, 208, 216)
	want(t, "Store", m.Store(16, 8, 8), api.OK)
	wrongs(t, m, *l)
	alls(t, &list.List{Head: 16, N: 3}, m, 16, 8, 40)
	want(t, "Store", m.Store(16, 8, 200), api.OK)
	alls(t, l, m, 16, 200, 208, 216)
	want(t, "Store", m.Store(16, 8, 208), api.OK)
	wrongs(t, m, *l)
}

// P7.2: what All answers is new memory, its spare room too.
func TestAllIsNew(t *testing.T) {
	m, l := made(t), &list.List{}
	want(t, "Push", l.Push(m, 8, 16, 24, 32, 40), api.OK)
	b := told(t, m)
	one, _ := l.All(m)
	two, _ := l.All(m)
	one = one[:cap(one)]
	for i := range one {
		one[i] = greatest
	}
	if !slices.Equal(two, []uint64{40, 32, 24, 16, 8}) {
		t.Error("two answers share", two)
	}
	alls(t, l, m, 40, 32, 24, 16, 8)
	holds(t, "an answer is written over", m, b)
}

// P7.2: a chain of just as many blocks as most, of one fewer, and of one more; memory stays.
func TestChain(t *testing.T) {
	row := []uint64{lastLink, 24, 1000, 16, 1, 1023}
	for n := 1; n <= len(row); n++ {
		m := made(t)
		l := linked(t, m, 0, row[:n]...)
		b := told(t, m)
		for most := range n {
			chains(t, m, l.Head, most, list.List{}, api.ErrRange)
		}
		for _, most := range append(mosts(), n, n+1, n+2) {
			chains(t, m, l.Head, most, *l, api.OK)
		}
		for _, most := range negatives() {
			chains(t, m, l.Head, most, list.List{}, api.ErrRange)
		}
		// It may begin in the midst of others.
		for i := range n {
			chains(t, m, row[i], n-i, list.List{Head: row[i], N: n - i}, api.OK)
			chains(t, m, row[i], n-i-1, list.List{}, api.ErrRange)
		}
		holds(t, "Chain", m, b)
	}
}

// P7.2: on head 0 none hangs, and that ends within any most.
func TestChainOfNone(t *testing.T) {
	m := made(t)
	for _, most := range append(append(negatives(), mosts()...), 0, 1, 2) {
		chains(t, m, 0, most, list.List{}, api.OK)
	}
}

// P7.2: a head whose link isn't within memory, and one whose link just is.
func TestChainBeyond(t *testing.T) {
	m := made(t)
	linked(t, m, 0, lastLink)
	chains(t, m, lastLink, 1, list.List{Head: lastLink, N: 1}, api.OK)
	for _, head := range beyond() {
		for _, most := range append(append(negatives(), mosts()...), 0, 1, 2) {
			chains(t, m, head, most, list.List{}, api.ErrRange)
		}
	}
}

// P7.2: rings of one, of two, of many, and those that some blocks lead to; they are refused, and that ends soon.
func TestRings(t *testing.T) {
	row := []uint64{16, 1000, 8, lastLink, 56, 40}
	for n := 1; n <= len(row); n++ {
		for _, back := range row[:n] {
			m := made(t)
			l := linked(t, m, back, row[:n]...)
			for _, most := range append(append(negatives(), mosts()...), 0, 1, 2, n-1, n, n+1, 2*n) {
				chains(t, m, l.Head, most, list.List{}, api.ErrRange)
				wrongs(t, m, list.List{Head: l.Head, N: most})
			}
		}
	}
}

// P7.2 and P7.3: o's blocks stand ahead of l's, both in their order; but for o's last link no byte changes.
func TestJoin(t *testing.T) {
	some := []uint64{16, lastLink, 56, 40}
	others := []uint64{1000, 24, 1, 1019, 200}
	for n := range len(some) + 1 {
		for k := range len(others) + 1 {
			m := made(t)
			l, o := linked(t, m, 0, some[:n]...), linked(t, m, 0, others[:k]...)
			b, head := told(t, m), l.Head
			if k > 0 {
				binary.LittleEndian.PutUint64(b[others[k-1]:], head)
				head = o.Head
			}
			want(t, "Join", l.Join(m, o), api.OK)
			is(t, "Join", *l, list.List{Head: head, N: n + k})
			is(t, "the one that was joined", *o, list.List{})
			holds(t, "Join", m, b)
			alls(t, l, m, slices.Concat(others[:k], some[:n])...)
			alls(t, o, m)
			for _, addr := range slices.Concat(others[:k], some[:n]) {
				pops(t, l, m, addr, api.OK)
			}
			pops(t, l, m, 0, api.ErrNone)
			pops(t, o, m, 0, api.ErrNone)
		}
	}
}

// P7.2: a list isn't joined to itself, be it empty, right, or not.
func TestJoinOfItself(t *testing.T) {
	m := made(t)
	linked(t, m, 0, 16, 32)
	b := told(t, m)
	for _, l := range []list.List{{}, {Head: 16, N: 2}, {Head: 16, N: 1}, {Head: 16}, {N: 3}, {Head: greatest, N: -1}} {
		was := l
		want(t, "Join of itself", l.Join(m, &l), api.ErrArg)
		is(t, "Join of itself", l, was)
	}
	holds(t, "Join of itself", m, b)
}

// P7.2: another list that has the same blocks isn't l: its last link is l's Head then, so that both are a ring.
func TestJoinOfTheSameBlocks(t *testing.T) {
	m := made(t)
	l := linked(t, m, 0, 16, 32)
	o := *l
	want(t, "Join", l.Join(m, &o), api.OK)
	is(t, "Join", *l, list.List{Head: 16, N: 4})
	is(t, "Join", o, list.List{})
	if x, e := m.Load(32, 8); x != 16 || e != api.OK {
		t.Error(x, e)
	}
	wrongs(t, m, *l)
}

// P7.2: whether l is right isn't asked, since its Head and N alone are told on.
func TestJoinToListsThatAreNotRight(t *testing.T) {
	for _, was := range []list.List{{Head: greatest, N: 3}, {Head: 8, N: 1}, {Head: 16, N: 0}, {N: 7}, {N: -2}, {Head: 40, N: -1}} {
		m, l := made(t), was
		o := linked(t, m, 0, 100, 200)
		b := told(t, m)
		want(t, "Join of none", l.Join(m, &list.List{}), api.OK)
		is(t, "Join of none", l, was)
		holds(t, "Join of none", m, b)
		want(t, "Join", l.Join(m, o), api.OK)
		is(t, "Join", l, list.List{Head: 100, N: was.N + 2})
		is(t, "Join", *o, list.List{})
		binary.LittleEndian.PutUint64(b[200:], was.Head)
		holds(t, "Join", m, b)
	}
}

// What is handed in stays as it is, its spare room too, and isn't kept.
func TestArgumentsStay(t *testing.T) {
	m, l := made(t), &list.List{}
	row := []uint64{8, 16, 24, 32, 40}
	want(t, "Push", l.Push(m, row[:3]...), api.OK)
	want(t, "Push", l.Push(m, row[:2:2]...), api.OK)
	if !slices.Equal(row, []uint64{8, 16, 24, 32, 40}) {
		t.Error(row)
	}
	m, l = made(t), &list.List{}
	want(t, "Push", l.Push(m, row...), api.OK)
	clear(row)
	alls(t, l, m, 40, 32, 24, 16, 8)
}

// Two memories are independent, and a list has no memory of its own: it tells what the one at hand does.
func TestTwoMemories(t *testing.T) {
	m, o, l := made(t), made(t), &list.List{}
	b := told(t, o)
	want(t, "Push", l.Push(m, 16, 32), api.OK)
	holds(t, "the other one", o, b)
	wrongs(t, o, *l)
	linked(t, o, 0, 32, 48)
	alls(t, l, m, 32, 16)
	alls(t, l, o, 32, 48)
}

// plain is a memory's bytes, of which chains are told in another way: by all that was met.
type plain []byte

func (b plain) in(addr uint64) bool { return addr < uint64(len(b)) && uint64(len(b))-addr >= 8 }

func (b plain) link(addr uint64) uint64 { return binary.LittleEndian.Uint64(b[addr:]) }

// hang is what hangs on head, and whether it ends.
func (b plain) hang(head uint64) ([]uint64, bool) {
	var row []uint64
	met := map[uint64]int{}
	for addr := head; addr != 0; addr = b.link(addr) {
		met[addr]++
		if !b.in(addr) || met[addr] > 1 {
			return nil, false
		}
		row = append(row, addr)
	}
	return row, true
}

func (b plain) push(l *list.List, addr ...uint64) api.Errno {
	for _, a := range addr {
		if a == 0 {
			return api.ErrArg
		}
		if !b.in(a) {
			return api.ErrRange
		}
		binary.LittleEndian.PutUint64(b[a:], l.Head)
		*l = list.List{Head: a, N: l.N + 1}
	}
	return api.OK
}

func (b plain) pop(l *list.List) (uint64, api.Errno) {
	if l.N == 0 {
		return 0, api.ErrNone
	}
	if !b.in(l.Head) {
		return 0, api.ErrRange
	}
	addr := l.Head
	*l = list.List{Head: b.link(addr), N: l.N - 1}
	return addr, api.OK
}

func (b plain) all(l list.List) ([]uint64, api.Errno) {
	row, ok := b.hang(l.Head)
	if !ok || len(row) != l.N {
		return nil, api.ErrRange
	}
	return row, api.OK
}

func (b plain) join(l, o *list.List) api.Errno {
	if l == o {
		return api.ErrArg
	}
	row, e := b.all(*o)
	if e != api.OK {
		return e
	}
	if len(row) > 0 {
		binary.LittleEndian.PutUint64(b[row[len(row)-1]:], l.Head)
		l.Head = row[0]
	}
	l.N += len(row)
	*o = list.List{}
	return api.OK
}

func (b plain) chain(head uint64, most int) (list.List, api.Errno) {
	row, ok := b.hang(head)
	if !ok || len(row) > max(most, 0) {
		return list.List{}, api.ErrRange
	}
	return list.List{Head: head, N: len(row)}, api.OK
}

// P7.1 to P7.3: rows of calls of all kinds, those that spoil lists among them, each held against plain bytes.
func TestRowsOfCalls(t *testing.T) {
	r := rand.New(rand.NewPCG(7, 3))
	done := map[string]int{}
	for range 300 {
		m, _ := mem.New(api.Slice)
		b := plain(told(t, m))
		got, wanted := make([]list.List, 3), make([]list.List, 3)
		addr := func() uint64 {
			switch r.IntN(12) {
			case 0:
				return 0
			case 1:
				return api.Slice - 8 + r.Uint64N(10)
			case 2:
				return r.Uint64()
			}
			return 8 * r.Uint64N(20)
		}
		for range 200 {
			i, j := r.IntN(3), r.IntN(3)
			e, f, what := api.OK, api.OK, ""
			switch r.IntN(14) {
			case 0, 1, 2:
				row := make([]uint64, r.IntN(4))
				for k := range row {
					row[k] = addr()
				}
				what, e, f = "Push", got[i].Push(m, row...), b.push(&wanted[i], row...)
			case 3, 4, 5:
				x, d := got[i].Pop(m)
				y, g := b.pop(&wanted[i])
				if what, e, f = "Pop", d, g; x != y {
					t.Fatalf("Pop: %d; wanted %d", x, y)
				}
			case 6, 7, 8:
				what, e, f = "Join", got[i].Join(m, &got[j]), b.join(&wanted[i], &wanted[j])
			case 9, 10:
				x, d := got[i].All(m)
				y, g := b.all(wanted[i])
				if what, e, f = "All", d, g; !slices.Equal(x, y) {
					t.Fatalf("All: %v; wanted %v", x, y)
				}
			case 11:
				head, most := addr(), r.IntN(8)-1
				x, d := list.Chain(m, head, most)
				y, g := b.chain(head, most)
				if what, e, f = "Chain", d, g; x != y {
					t.Fatalf("Chain(%d, %d): %+v; wanted %+v", head, most, x, y)
				}
			case 12:
				got[i], wanted[i] = list.List{}, list.List{}
			case 13:
				if a, x := 8*r.Uint64N(20), addr(); r.IntN(3) == 0 {
					want(t, "Store", m.Store(a, 8, x), api.OK)
					binary.LittleEndian.PutUint64(b[a:], x)
				}
			}
			want(t, what, e, f)
			if !slices.Equal(got, wanted) || !bytes.Equal(told(t, m), b) {
				t.Fatalf("%s: %+v; wanted %+v, or other bytes", what, got, wanted)
			}
			if e == api.OK {
				done[what]++
			} else {
				done["no "+what]++
			}
		}
	}
	for _, what := range []string{"Push", "Pop", "Join", "All", "Chain", "no Push", "no Pop", "no Join", "no All", "no Chain"} {
		if done[what] < 500 {
			t.Errorf("%s: %d times", what, done[what])
		}
	}
}

// P7.3: blocks of lists that are right are in one of them, each once, however they are pushed, popped and joined.
func TestBlocksStayOnce(t *testing.T) {
	r := rand.New(rand.NewPCG(7, 7))
	m, lists := made(t), make([]list.List, 4)
	want(t, "Push", lists[0].Push(m, 8, 16, 24, 32, 40, 48, 56, 64, 72, 80, 88, 96), api.OK)
	for range 4000 {
		l, o := &lists[r.IntN(4)], &lists[r.IntN(4)]
		if r.IntN(6) == 0 {
			l.Join(m, o)
		} else if addr, e := l.Pop(m); e == api.OK {
			want(t, "Push", o.Push(m, addr), api.OK)
		}
		var all []uint64
		for i := range lists {
			row, e := lists[i].All(m)
			want(t, "All", e, api.OK)
			all = append(all, row...)
		}
		slices.Sort(all)
		if !slices.Equal(all, []uint64{8, 16, 24, 32, 40, 48, 56, 64, 72, 80, 88, 96}) {
			t.Fatal(all)
		}
	}
}
