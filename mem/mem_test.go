package mem_test

import (
	"bytes"
	"encoding/binary"
	"math"
	"math/rand/v2"
	"slices"
	"testing"

	"allotment/api"
	"allotment/mem"
)

const (
	size     = 2048
	greatest = ^uint64(0)
)

// lengths are those that a number may have.
func lengths() []int { return []int{1, 2, 4, 8} }

// most is the greatest number of n bytes.
func most(n int) uint64 { return greatest >> (64 - 8*n) }

// noLengths are those that a number may not have, and what would be one, if it were cut off.
func noLengths() []int {
	return []int{0, 3, 5, 6, 7, 9, 10, 16, 64, 1024, -1, -2, -4, -8, 1<<8 | 1, 1<<16 | 2, 1<<32 | 8, math.MaxInt, math.MinInt, math.MinInt + 8}
}

// made is memory in which each byte differs from those near it.
func made(t *testing.T) *mem.Mem {
	t.Helper()
	m, e := mem.New(size)
	if e != api.OK {
		t.Fatal(e)
	}
	want(t, "Put", m.Put(0, sample()...), api.OK)
	return m
}

func sample() []byte {
	b := make([]byte, size)
	for i := range b {
		b[i] = byte(i*7 + i>>8 + 1)
	}
	return b
}

// all is each byte of a memory.
func all(t *testing.T, m *mem.Mem) []byte {
	t.Helper()
	b, e := m.Get(0, m.Size())
	if e != api.OK {
		t.Fatal(e)
	}
	return b
}

func want(t *testing.T, what string, e, f api.Errno) {
	t.Helper()
	if e != f {
		t.Errorf("%s: error %d; wanted %d", what, e, f)
	}
}

func holds(t *testing.T, what string, m *mem.Mem, b []byte) {
	t.Helper()
	for i, c := range all(t, m) {
		if c != b[i] {
			t.Fatalf("%s: at %d stands %d; wanted %d", what, i, c, b[i])
		}
	}
}

// P2.1
func TestNew(t *testing.T) {
	for n := uint64(api.Slice); n <= api.MaxSize; n += api.Slice {
		m, e := mem.New(n)
		if e != api.OK || m == nil || m.Size() != n {
			t.Fatalf("New(%d): error %d", n, e)
		}
		if b, e := m.Get(0, n); e != api.OK || uint64(len(b)) != n || bytes.Trim(b, "\x00") != nil {
			t.Fatalf("New(%d): Get of all: %d bytes, error %d", n, len(b), e)
		}
	}
}

// P2.1
func TestNewOfSizesThatMayNotBe(t *testing.T) {
	for _, n := range []uint64{0, 1, 8, 512, 1023, 1025, 1536, 2047, 2049, 16000, api.MaxSize - 1, api.MaxSize + 1, api.MaxSize + api.Slice, 2 * api.MaxSize, 1 << 32, 1<<32 | api.Slice, 1 << 63, 1<<63 | api.Slice, greatest - 1023, greatest} {
		if m, e := mem.New(n); m != nil || e != api.ErrArg {
			t.Errorf("New(%d): %v, error %d", n, m != nil, e)
		}
	}
}

// All layers: a nil Mem's error goes ahead of all others.
func TestNil(t *testing.T) {
	var m *mem.Mem
	if m.Size() != 0 {
		t.Error("Size", m.Size())
	}
	for _, addr := range []uint64{0, 8, greatest} {
		for _, n := range append(lengths(), noLengths()...) {
			x, e := m.Load(addr, n)
			if x != 0 {
				t.Error("Load", x)
			}
			want(t, "Load", e, api.ErrNil)
			want(t, "Store", m.Store(addr, n, 300), api.ErrNil)
		}
		for _, n := range []uint64{0, 1, greatest} {
			b, e := m.Get(addr, n)
			if len(b) != 0 {
				t.Error("Get", b)
			}
			want(t, "Get", e, api.ErrNil)
			want(t, "Copy", m.Copy(addr, 0, n), api.ErrNil)
			want(t, "Fill", m.Fill(addr, n, 1), api.ErrNil)
			want(t, "Fill", m.Fill(addr, n), api.ErrNil)
		}
		want(t, "Put", m.Put(addr, 1), api.ErrNil)
		want(t, "Put", m.Put(addr), api.ErrNil)
		ok, e := m.Cas(addr, 0, 1)
		if ok {
			t.Error("Cas")
		}
		want(t, "Cas", e, api.ErrNil)
	}
}

// A Mem that New didn't make has no bytes, but is one.
func TestZeroValue(t *testing.T) {
	m := &mem.Mem{}
	if b, e := m.Get(0, 0); m.Size() != 0 || len(b) != 0 || e != api.OK {
		t.Error(m.Size(), b, e)
	}
	_, e := m.Load(0, 1)
	want(t, "Load", e, api.ErrRange)
	want(t, "Put", m.Put(0, 1), api.ErrRange)
}

// P2.2
func TestExamples(t *testing.T) {
	m, _ := mem.New(api.Slice)
	want(t, "Store", m.Store(8, 2, 258), api.OK)
	want(t, "Fill", m.Fill(0, 5, 1, 2), api.OK)
	if b, e := m.Get(0, 12); e != api.OK || !slices.Equal(b, []byte{1, 2, 1, 2, 1, 0, 0, 0, 2, 1, 0, 0}) {
		t.Error(b, e)
	}
}

// P2.2 and P2.4: numbers of all lengths, at places of all kinds, the last bytes too; what is beside them stays.
func TestStoreAndLoad(t *testing.T) {
	for _, n := range lengths() {
		for _, addr := range []uint64{0, 1, 2, 3, 5, 8, 1000, 1021, 1024, size - uint64(n) - 1, size - uint64(n)} {
			for _, x := range []uint64{0, 1, 127, 128, 255, most(n), most(n) - 1, most(n)>>1 + 1, 0x0102030405060708 & most(n), 0xf1f2f3f4f5f6f7f8 & most(n)} {
				m, b := made(t), sample()
				want(t, "Store", m.Store(addr, n, x), api.OK)
				row := binary.LittleEndian.AppendUint64(nil, x)
				copy(b[addr:], row[:n])
				holds(t, "Store", m, b)
				if y, e := m.Load(addr, n); y != x || e != api.OK {
					t.Errorf("Load(%d, %d): %d, error %d; wanted %d", addr, n, y, e, x)
				}
				holds(t, "Load", m, b)
			}
		}
	}
}

// P2.2: what is loaded is what stands there, whoever put it.
func TestLoadOfOtherBytes(t *testing.T) {
	m, b := made(t), append(sample(), make([]byte, 8)...)
	for addr := range uint64(size) {
		word := binary.LittleEndian.Uint64(b[addr:])
		for _, n := range lengths() {
			x, f := word&most(n), api.OK
			if addr+uint64(n) > size {
				x, f = 0, api.ErrRange
			}
			if y, e := m.Load(addr, n); y != x || e != f {
				t.Fatalf("Load(%d, %d): %d, error %d; wanted %d, error %d", addr, n, y, e, x, f)
			}
		}
	}
}

// P2.2: ErrArg, wherever it would be, and nothing is done.
func TestNumbersThatMayNotBe(t *testing.T) {
	m := made(t)
	for _, addr := range []uint64{0, 8, size - 8, size, size + 1, 1 << 63, greatest} {
		for _, n := range noLengths() {
			x, e := m.Load(addr, n)
			if x != 0 {
				t.Errorf("Load(%d, %d): %d", addr, n, x)
			}
			want(t, "Load", e, api.ErrArg)
			want(t, "Store", m.Store(addr, n, 0), api.ErrArg)
			want(t, "Store", m.Store(addr, n, greatest), api.ErrArg)
		}
		for _, n := range []int{1, 2, 4} {
			for _, x := range []uint64{most(n) + 1, most(n) + 2, most(n)<<1 | 1, most(n) << 1, 1 << 32 << n, 1 << 63, greatest} {
				want(t, "Store", m.Store(addr, n, x), api.ErrArg)
			}
		}
	}
	holds(t, "all refused", m, sample())
}

// beyond are ranges that aren't in a memory of size bytes; the sums of some wrap round.
func beyond() [][2]uint64 {
	return [][2]uint64{{0, size + 1}, {1, size}, {size - 1, 2}, {size, 1}, {size + 1, 0}, {size + 1, 1}, {size + 1, greatest}, {8, greatest - 7}, {8, greatest}, {0, greatest}, {size, greatest}, {greatest, 0}, {greatest, 1}, {greatest, 2}, {greatest, greatest}, {greatest - 7, 8}, {greatest - 7, 16}, {1 << 63, 1 << 63}, {1 << 63, 0}, {1 << 32, 4}}
}

// All calls that take a length of any kind: ErrRange, and nothing.
func TestRangesThatAreNotIn(t *testing.T) {
	m := made(t)
	for _, r := range beyond() {
		addr, n := r[0], r[1]
		b, e := m.Get(addr, n)
		if len(b) != 0 {
			t.Errorf("Get(%d, %d): %d bytes", addr, n, len(b))
		}
		want(t, "Get", e, api.ErrRange)
		want(t, "Fill", m.Fill(addr, n), api.ErrRange)
		want(t, "Fill", m.Fill(addr, n, 9, 8), api.ErrRange)
		want(t, "Copy to", m.Copy(addr, 0, n), api.ErrRange)
		want(t, "Copy from", m.Copy(0, addr, n), api.ErrRange)
		want(t, "Copy", m.Copy(addr, addr, n), api.ErrRange)
		if n <= 2*size {
			want(t, "Put", m.Put(addr, make([]byte, n)...), api.ErrRange)
		}
	}
	holds(t, "all refused", m, sample())
}

// All calls whose length is a number's: ErrRange, and nothing.
func TestNumbersThatAreNotIn(t *testing.T) {
	m := made(t)
	for _, n := range lengths() {
		k := uint64(n)
		places := []uint64{size + 1, 1 << 32, 1 << 63, greatest - k, greatest - k + 1, greatest}
		for addr := size - k + 1; addr <= size; addr++ {
			places = append(places, addr)
		}
		for _, addr := range places {
			x, e := m.Load(addr, n)
			if x != 0 {
				t.Errorf("Load(%d, %d): %d", addr, n, x)
			}
			want(t, "Load", e, api.ErrRange)
			want(t, "Store", m.Store(addr, n, 0), api.ErrRange)
			want(t, "Store", m.Store(addr, n, most(n)), api.ErrRange)
		}
	}
	for _, addr := range []uint64{size - 7, size - 1, size, size + 1, 1 << 32, 1 << 63, greatest - 7, greatest - 6, greatest} {
		ok, e := m.Cas(addr, 0, 1)
		if ok {
			t.Errorf("Cas at %d", addr)
		}
		want(t, "Cas", e, api.ErrRange)
	}
	holds(t, "all refused", m, sample())
}

// A range of none may be anywhere up to the size, and changes nothing.
func TestRangesOfNone(t *testing.T) {
	m := made(t)
	for _, addr := range []uint64{0, 1, 1024, size - 1, size} {
		b, e := m.Get(addr, 0)
		if len(b) != 0 {
			t.Errorf("Get(%d, 0): %d bytes", addr, len(b))
		}
		want(t, "Get", e, api.OK)
		want(t, "Put", m.Put(addr), api.OK)
		want(t, "Put", m.Put(addr, []byte{}...), api.OK)
		want(t, "Fill", m.Fill(addr, 0), api.OK)
		want(t, "Fill", m.Fill(addr, 0, 1, 2), api.OK)
		want(t, "Copy", m.Copy(addr, 0, 0), api.OK)
		want(t, "Copy", m.Copy(0, addr, 0), api.OK)
	}
	holds(t, "of none", m, sample())
}

// P2.2 and P2.4: ranges up to the last byte, and all at once.
func TestPutAndGet(t *testing.T) {
	for _, r := range [][2]uint64{{0, 1}, {0, 3}, {5, 11}, {1020, 9}, {size - 1, 1}, {size - 9, 9}, {1, size - 1}, {0, size - 1}, {0, size}} {
		m, b := made(t), sample()
		row := make([]byte, r[1])
		for i := range row {
			row[i] = byte(200 - i*3)
		}
		want(t, "Put", m.Put(r[0], row...), api.OK)
		copy(b[r[0]:], row)
		holds(t, "Put", m, b)
		if got, e := m.Get(r[0], r[1]); e != api.OK || !bytes.Equal(got, row) {
			t.Errorf("Get(%d, %d): %v, error %d", r[0], r[1], got, e)
		}
	}
}

// P2.2: what is handed in is not changed and not kept.
func TestPutAndFillKeepNothing(t *testing.T) {
	m, b := made(t), sample()
	row := []byte{9, 8, 7, 6, 5}
	want(t, "Put", m.Put(16, row[:3]...), api.OK)
	want(t, "Fill", m.Fill(32, 7, row[:3]...), api.OK)
	if !slices.Equal(row, []byte{9, 8, 7, 6, 5}) {
		t.Error(row)
	}
	clear(row)
	copy(b[16:], []byte{9, 8, 7})
	copy(b[32:], []byte{9, 8, 7, 9, 8, 7, 9})
	holds(t, "what was handed in is other now", m, b)
}

// P2.2: what is handed out is new, its spare room too.
func TestGetIsNew(t *testing.T) {
	m := made(t)
	for _, n := range []uint64{0, 1, 3, 64, size} {
		one, _ := m.Get(0, n)
		two, _ := m.Get(0, n)
		one = one[:cap(one)]
		for i := range one {
			one[i] = 99
		}
		holds(t, "an answer is written over", m, sample())
		if !bytes.Equal(two, sample()[:n]) {
			t.Errorf("Get(0, %d): two answers share", n)
		}
		want(t, "Fill", m.Fill(0, n, 5), api.OK)
		if !bytes.Equal(two, sample()[:n]) {
			t.Errorf("Get(0, %d): an answer and the memory share", n)
		}
		want(t, "Put", m.Put(0, two...), api.OK)
	}
}

// P2.3: apart, behind one another, and over one another, on either side.
func TestCopy(t *testing.T) {
	places := []uint64{0, 1, 2, 7, 8, 1000, 1008, size - 17, size - 16}
	for _, to := range places {
		for _, from := range places {
			for n := range uint64(17) {
				m, b := made(t), sample()
				want(t, "Copy", m.Copy(to, from, n), api.OK)
				copy(b[to:to+n], sample()[from:from+n])
				holds(t, "Copy", m, b)
			}
		}
	}
}

// P2.3
func TestCopyOfMuch(t *testing.T) {
	for _, r := range [][3]uint64{{0, 1024, 1024}, {1024, 0, 1024}, {1, 0, size - 1}, {0, 1, size - 1}, {0, 0, size}, {512, 0, 1536}, {0, 512, 1536}} {
		m, b := made(t), sample()
		want(t, "Copy", m.Copy(r[0], r[1], r[2]), api.OK)
		copy(b[r[0]:r[0]+r[2]], sample()[r[1]:r[1]+r[2]])
		holds(t, "Copy", m, b)
	}
}

// P2.3: one of the two ranges is in, the other one isn't.
func TestCopyThatGoesBeyond(t *testing.T) {
	m := made(t)
	for _, r := range [][3]uint64{{0, size - 3, 4}, {size - 3, 0, 4}, {0, size, 1}, {size, 0, 1}, {0, size + 1, 0}, {size + 1, 0, 0}, {0, greatest, 2}, {greatest, 0, 2}, {16, greatest - 15, 16}, {greatest - 15, 16, 16}} {
		want(t, "Copy", m.Copy(r[0], r[1], r[2]), api.ErrRange)
	}
	holds(t, "all refused", m, sample())
}

// P2.3: patterns shorter than the range, as long, longer, and none.
func TestFill(t *testing.T) {
	for k := range 8 {
		pattern := []byte{11, 22, 33, 44, 55, 66, 77, 88}[:k]
		for n := range uint64(40) {
			for _, addr := range []uint64{0, 3, 1000, size - n} {
				m, b := made(t), sample()
				want(t, "Fill", m.Fill(addr, n, pattern...), api.OK)
				for i := range n {
					b[addr+i] = 0
					if k > 0 {
						b[addr+i] = pattern[i%uint64(k)]
					}
				}
				holds(t, "Fill", m, b)
			}
		}
	}
}

// P2.3: all of the memory, and a pattern that is longer than it.
func TestFillOfAll(t *testing.T) {
	m := made(t)
	long := slices.Repeat([]byte{3, 1, 4, 1, 5}, size)
	want(t, "Fill", m.Fill(0, size, 3, 1, 4, 1, 5), api.OK)
	holds(t, "Fill", m, long[:size])
	want(t, "Fill", m.Fill(0, size), api.OK)
	holds(t, "Fill", m, make([]byte, size))
	want(t, "Fill", m.Fill(0, size, long...), api.OK)
	holds(t, "Fill", m, long[:size])
	want(t, "Fill", m.Fill(0, size, []byte{}...), api.OK)
	holds(t, "Fill", m, make([]byte, size))
}

// P2.3: a number that is there, and one that differs from it in one bit.
func TestCas(t *testing.T) {
	for _, addr := range []uint64{0, 1, 8, 1021, size - 9, size - 8} {
		for _, old := range []uint64{0, 1, 0x0102030405060708, 1 << 63, greatest - 1, greatest} {
			for _, x := range []uint64{0, 258, 1 << 56, greatest} {
				m, b := made(t), sample()
				want(t, "Store", m.Store(addr, 8, old), api.OK)
				binary.LittleEndian.PutUint64(b[addr:], old)
				for i := range 64 {
					if ok, e := m.Cas(addr, old^1<<i, x); ok || e != api.OK {
						t.Errorf("Cas(%d) of another number: %v, error %d", addr, ok, e)
					}
				}
				holds(t, "Cas of another number", m, b)
				if ok, e := m.Cas(addr, old, x); !ok || e != api.OK {
					t.Errorf("Cas(%d): %v, error %d", addr, ok, e)
				}
				binary.LittleEndian.PutUint64(b[addr:], x)
				holds(t, "Cas", m, b)
			}
		}
	}
}

// Objects that don't have one another are independent.
func TestTwoMemories(t *testing.T) {
	m, o := made(t), made(t)
	want(t, "Fill", m.Fill(0, size), api.OK)
	holds(t, "the other one", o, sample())
}

// P2.4: rows of calls of all kinds, each held against plain bytes.
func TestRowsOfCalls(t *testing.T) {
	r := rand.New(rand.NewPCG(2, 4))
	m, b := made(t), sample()
	for range 20000 {
		addr, from, n := r.Uint64N(size+1), r.Uint64N(size+1), r.Uint64N(40)
		in := addr+n <= size
		row := make([]byte, n)
		for i := range row {
			row[i] = byte(r.Uint32())
		}
		e, f := api.OK, api.OK
		if !in {
			f = api.ErrRange
		}
		switch r.IntN(4) {
		case 0:
			if e = m.Put(addr, row...); in {
				copy(b[addr:], row)
			}
		case 1:
			if e = m.Fill(addr, n, 1, 2, 3); in {
				copy(b[addr:addr+n], slices.Repeat([]byte{1, 2, 3}, 14))
			}
		case 2:
			if e = m.Copy(addr, from, n); from+n > size {
				f = api.ErrRange
			} else if in {
				copy(b[addr:addr+n], b[from:from+n])
			}
		case 3:
			if e = m.Store(addr&^7, 8, n<<40+addr); addr < size {
				binary.LittleEndian.PutUint64(b[addr&^7:], n<<40+addr)
				f = api.OK
			} else {
				f = api.ErrRange
			}
		}
		want(t, "a call of a row", e, f)
	}
	holds(t, "a row of calls", m, b)
}
