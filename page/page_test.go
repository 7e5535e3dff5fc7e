package page_test

import (
	"encoding/binary"
	"math"
	"math/rand/v2"
	"slices"
	"testing"

	"allotment/api"
	"allotment/cell"
	"allotment/geo"
	"allotment/mem"
	"allotment/page"
)

const (
	size     = 4096 // bytes of the memories here, if nothing else is said
	greatest = ^uint64(0)
)

// memory is one in which each byte differs from those near it.
func memory(t *testing.T, n uint64) *mem.Mem {
	t.Helper()
	m, e := mem.New(n)
	if e != api.OK {
		t.Fatal(e)
	}
	b := make([]byte, n)
	for i := range b {
		b[i] = byte(i*7 + i>>8 + 1)
	}
	if e := m.Put(0, b...); e != api.OK {
		t.Fatal(e)
	}
	return m
}

// told is all bytes of a memory.
func told(t *testing.T, m *mem.Mem) []byte {
	t.Helper()
	b, e := m.Get(0, m.Size())
	if e != api.OK {
		t.Fatal(e)
	}
	return b
}

// write writes a word of memory, whatever it is that stands there.
func write(t *testing.T, m *mem.Mem, addr, x uint64) {
	t.Helper()
	if e := m.Store(addr, 8, x); e != api.OK {
		t.Fatal(e)
	}
}

// look is what a cell holds, and how often it was asked, told by a copy, so that it isn't asked by that.
func look(c *cell.Cell) (word, tag uint64, asked int) {
	d := *c
	word, tag = d.Load()
	return word, tag, cell.Asked(c)
}

// twin is a page, and beside it what it is to be: rows of addresses, plain numbers, and the memory's bytes.
type twin struct {
	t *testing.T
	m *mem.Mem
	p *page.Page

	run                 geo.Run
	made, used          int
	free, local, posted []uint64
	tag                 uint64
	asked               int
	bytes               []byte
}

func newTwin(t *testing.T, n uint64, r geo.Run) *twin {
	t.Helper()
	m := memory(t, n)
	p, e := page.New(m, r)
	if p == nil || e != api.OK {
		t.Fatalf("New of %+v: %v, error %d", r, p != nil, e)
	}
	w := &twin{t: t, m: m, p: p, run: r, bytes: told(t, m)}
	w.holds("New")
	return w
}

func (w *twin) block(i int) uint64 { return w.run.From + uint64(i)*w.run.Size }

func (w *twin) word() uint64 {
	if len(w.posted) == 0 {
		return 0
	}
	return w.posted[0]
}

func (w *twin) link(addr, next uint64) {
	binary.LittleEndian.PutUint64(w.bytes[addr:], next)
}

// holds asks all that a page tells of itself, and the memory, the bytes beside the links too.
func (w *twin) holds(what string) {
	w.t.Helper()
	if r, used, made := w.p.Run(), w.p.Used(), w.p.Made(); r != w.run || used != w.used || made != w.made {
		w.t.Fatalf("%s: run %+v, %d used, %d made; wanted %+v, %d, %d", what, r, used, made, w.run, w.used, w.made)
	}
	free, local, posted, e := w.p.Lists()
	if e != api.OK || !slices.Equal(free, w.free) || !slices.Equal(local, w.local) || !slices.Equal(posted, w.posted) {
		w.t.Fatalf("%s: Lists: %v, %v, %v, error %d; wanted %v, %v, %v", what, free, local, posted, e, w.free, w.local, w.posted)
	}
	if word, tag, asked := look(w.p.Cell()); word != w.word() || tag != w.tag || asked != w.asked {
		w.t.Fatalf("%s: the cell: %d %d, asked %d times; wanted %d %d, %d", what, word, tag, asked, w.word(), w.tag, w.asked)
	}
	if b := told(w.t, w.m); !slices.Equal(b, w.bytes) {
		for i := range b {
			if b[i] != w.bytes[i] {
				w.t.Fatalf("%s: at %d stands %d; wanted %d", what, i, b[i], w.bytes[i])
			}
		}
	}
}

// alloc holds an Alloc against the rows, and answers the block that is handed out, 0 of none.
func (w *twin) alloc() uint64 {
	w.t.Helper()
	if len(w.free) == 0 {
		w.free, w.local = w.local, nil
	}
	if len(w.free) == 0 {
		for w.made < w.run.N && len(w.free) < 4 {
			w.free = append(w.free, w.block(w.made))
			w.made++
		}
		for i, addr := range w.free {
			next := uint64(0)
			if i+1 < len(w.free) {
				next = w.free[i+1]
			}
			w.link(addr, next)
		}
	}
	addr, e := uint64(0), api.ErrFull
	if len(w.free) > 0 {
		addr, e = w.free[0], api.OK
		w.free = w.free[1:]
		w.used++
	}
	if got, f := w.p.Alloc(); got != addr || f != e {
		w.t.Fatalf("Alloc: %d, error %d; wanted %d, error %d", got, f, addr, e)
	}
	w.holds("Alloc")
	return addr
}

// allocs hands out some blocks, and writes over all of their bytes, as whoever has them may.
func (w *twin) allocs(n int) []uint64 {
	w.t.Helper()
	var l []uint64
	for range n {
		addr := w.alloc()
		if addr == 0 {
			w.t.Fatal("no block")
		}
		w.fill(addr)
		l = append(l, addr)
	}
	return l
}

func (w *twin) fill(addr uint64) {
	w.t.Helper()
	if e := w.m.Fill(addr, w.run.Size, 0xee); e != api.OK {
		w.t.Fatal(e)
	}
	for i := range w.run.Size {
		w.bytes[addr+i] = 0xee
	}
}

// index is what layer 6 is to tell of an address, if the block may be given back.
func (w *twin) index(addr uint64) api.Errno {
	if addr < w.run.From || addr >= w.block(w.run.N) {
		return api.ErrRange
	}
	if (addr-w.run.From)%w.run.Size != 0 || addr >= w.block(w.made) {
		return api.ErrNone
	}
	return api.OK
}

// frees holds a Free of some against the rows.
func (w *twin) frees(addr ...uint64) api.Errno {
	w.t.Helper()
	e := api.OK
	for _, a := range addr {
		if e = w.index(a); e == api.OK && w.used == 0 {
			e = api.ErrNone
		}
		if e != api.OK {
			break
		}
		w.link(a, append(w.local, 0)[0])
		w.local = slices.Insert(slices.Clone(w.local), 0, a)
		w.used--
	}
	if f := w.p.Free(addr...); f != e {
		w.t.Fatalf("Free(%v): error %d; wanted %d", addr, f, e)
	}
	w.holds("Free")
	return e
}

// load asks the cell, as whoever posts does first.
func (w *twin) load() (head, tag uint64) {
	w.t.Helper()
	head, tag = w.p.Cell().Load()
	w.asked++
	if head != w.word() || tag != w.tag {
		w.t.Fatalf("the cell: %d %d; wanted %d %d", head, tag, w.word(), w.tag)
	}
	w.holds("Load")
	return head, tag
}

// posts holds a Post against the rows, and answers whether it went.
func (w *twin) posts(addr, head, tag uint64) bool {
	w.t.Helper()
	e, goes := w.index(addr), false
	if e == api.OK {
		w.link(addr, head)
		w.asked++
		if goes = tag == w.tag; goes {
			w.tag++
			w.posted = slices.Insert(slices.Clone(w.posted), 0, addr)
		}
	}
	if got, f := w.p.Post(addr, head, tag); got != goes || f != e {
		w.t.Fatalf("Post(%d, %d, %d): %t, error %d; wanted %t, error %d", addr, head, tag, got, f, goes, e)
	}
	w.holds("Post")
	return goes
}

// postAll posts some blocks, each behind a look at the cell.
func (w *twin) postAll(addr ...uint64) {
	w.t.Helper()
	for _, a := range addr {
		head, tag := w.load()
		if !w.posts(a, head, tag) {
			w.t.Fatalf("Post of %d doesn't go", a)
		}
	}
}

// gather holds a Gather against the rows.
func (w *twin) gather() {
	w.t.Helper()
	n, e := len(w.posted), api.OK
	w.asked++
	w.tag++
	if n > w.used {
		n, e = 0, api.ErrRange
	} else if n > 0 {
		w.link(w.posted[n-1], append(w.local, 0)[0])
		w.local = slices.Concat(w.posted, w.local)
		w.used -= n
	}
	w.posted = nil
	if got, f := w.p.Gather(); got != n || f != e {
		w.t.Fatalf("Gather: %d, error %d; wanted %d, error %d", got, f, n, e)
	}
	w.holds("Gather")
}

// beyond are words that are no address with 8 bytes within a memory of 4096.
func beyond() []uint64 {
	return []uint64{size - 7, size - 1, size, size + 1024, api.MaxSize, 1 << 32, 1<<32 + 1024, 1 << 63, greatest - 7, greatest}
}

// The chapter's example, and DOC.md's.
func TestExamples(t *testing.T) {
	p, e := page.New(memory(t, 2048), geo.Run{From: 1024, Size: 256, N: 4})
	if e != api.OK {
		t.Fatal(e)
	}
	alloc := func(want uint64) {
		t.Helper()
		if addr, e := p.Alloc(); addr != want || e != api.OK {
			t.Fatalf("Alloc: %d, error %d; wanted %d", addr, e, want)
		}
	}
	alloc(1024)
	alloc(1280)
	if e := p.Free(1024); e != api.OK {
		t.Fatal(e)
	}
	alloc(1536)
	alloc(1792)
	alloc(1024)
	if addr, e := p.Alloc(); addr != 0 || e != api.ErrFull {
		t.Errorf("Alloc of a full page: %d, error %d", addr, e)
	}
}

// P9.1: runs that may just be.
func TestNew(t *testing.T) {
	for _, x := range []struct {
		bytes uint64
		r     geo.Run
	}{
		{1024, geo.Run{From: 1, Size: 16, N: 1}},
		{1024, geo.Run{From: 16, Size: 16, N: 1}},
		{1024, geo.Run{From: 1, Size: 1023, N: 1}},
		{1024, geo.Run{From: 1008, Size: 16, N: 1}},
		{1024, geo.Run{From: 16, Size: 16, N: 63}},
		{1024, geo.Run{From: 7, Size: 17, N: 59}},
		{2048, geo.Run{From: 1024, Size: 256, N: 4}},
		{size, geo.Run{From: 1024, Size: 1024, N: 3}},
		{32768, geo.Run{From: 16384, Size: 16, N: 1024}},
		{api.MaxSize, geo.Run{From: 1, Size: api.MaxSize - 1, N: 1}},
		{api.MaxSize, geo.Run{From: api.MaxSize - 16, Size: 16, N: 1}},
		{api.MaxSize, geo.Run{From: 1024, Size: 1023, N: 1024}},
	} {
		w := newTwin(t, x.bytes, x.r)
		if got := w.alloc(); got != x.r.From {
			t.Errorf("the first block of %+v: %d", x.r, got)
		}
	}
}

// P9.1: runs that may not be: nil and ErrArg, and the memory stays.
func TestNewOfRunsThatMayNotBe(t *testing.T) {
	for _, x := range []struct {
		bytes uint64
		r     geo.Run
	}{
		{size, geo.Run{}},
		{size, geo.Run{From: 0, Size: 16, N: 1}},
		{size, geo.Run{From: 0, Size: 1024, N: 4}},
		{size, geo.Run{From: 1024, Size: 15, N: 1}},
		{size, geo.Run{From: 1024, Size: 15, N: 64}},
		{size, geo.Run{From: 1024, Size: 8, N: 4}},
		{size, geo.Run{From: 1024, Size: 1, N: 4}},
		{size, geo.Run{From: 1024, Size: 0, N: 4}},
		{size, geo.Run{From: 1024, Size: 16, N: 0}},
		{size, geo.Run{From: 1024, Size: 16, N: -1}},
		{size, geo.Run{From: 1024, Size: 16, N: math.MinInt}},
		{size, geo.Run{From: 1024, Size: 16, N: math.MaxInt}},
		{size, geo.Run{From: 1024, Size: 1024, N: 4}},
		{size, geo.Run{From: 1025, Size: 1024, N: 3}},
		{size, geo.Run{From: 1024, Size: 3073, N: 1}},
		{size, geo.Run{From: size - 15, Size: 16, N: 1}},
		{size, geo.Run{From: size, Size: 16, N: 1}},
		{size, geo.Run{From: size, Size: 16, N: 0}},
		{size, geo.Run{From: size + 1, Size: 16, N: 1}},
		{size, geo.Run{From: greatest, Size: 16, N: 1}},
		{size, geo.Run{From: greatest - 15, Size: 16, N: 1}},
		{size, geo.Run{From: 16, Size: greatest, N: 1}},
		{size, geo.Run{From: 16, Size: 1 << 63, N: 2}},
		{size, geo.Run{From: 16, Size: 1 << 62, N: 4}},
		{size, geo.Run{From: 16, Size: greatest - 15, N: 1}},
		{size, geo.Run{From: 16, Size: api.MaxSize, N: 1}},
		{32768, geo.Run{From: 16, Size: 16, N: 1025}},
		{api.MaxSize, geo.Run{From: 16, Size: 16, N: 1025}},
		{api.MaxSize, geo.Run{From: 1, Size: api.MaxSize, N: 1}},
		{api.MaxSize, geo.Run{From: 1025, Size: 1023, N: 1024}},
	} {
		m := memory(t, x.bytes)
		b := told(t, m)
		if p, e := page.New(m, x.r); p != nil || e != api.ErrArg {
			t.Errorf("New of %+v in %d bytes: %v, error %d", x.r, x.bytes, p != nil, e)
		}
		if p, e := page.New(nil, x.r); p != nil || e != api.ErrNil {
			t.Errorf("New of %+v in a nil Mem: %v, error %d", x.r, p != nil, e)
		}
		if !slices.Equal(told(t, m), b) {
			t.Errorf("New of %+v wrote", x.r)
		}
	}
}

// P9.1: ErrNil of a nil Mem, of a run that may be, too; a Mem that New didn't make has no bytes for one.
func TestNewOfNoMemory(t *testing.T) {
	r := geo.Run{From: 1024, Size: 16, N: 4}
	if p, e := page.New(nil, r); p != nil || e != api.ErrNil {
		t.Errorf("New: %v, error %d", p != nil, e)
	}
	if p, e := page.New(&mem.Mem{}, r); p != nil || e != api.ErrArg {
		t.Errorf("New: %v, error %d", p != nil, e)
	}
}

// P9.1 to P9.3: of a nil Page: ErrNil, beside it zero; the others zero.
func TestNil(t *testing.T) {
	var p *page.Page
	words := append(beyond(), 0, 1, 16, 1024)
	for range 2 {
		if p.Run() != (geo.Run{}) || p.Used() != 0 || p.Made() != 0 || p.Cell() != nil {
			t.Error("Run, Used, Made, Cell", p.Run(), p.Used(), p.Made(), p.Cell())
		}
		if addr, e := p.Alloc(); addr != 0 || e != api.ErrNil {
			t.Error("Alloc", addr, e)
		}
		for _, addr := range words {
			if e := p.Free(addr); e != api.ErrNil {
				t.Error("Free", e)
			}
			for _, x := range words {
				if ok, e := p.Post(addr, x, x); ok || e != api.ErrNil {
					t.Error("Post", ok, e)
				}
			}
		}
		if e, f, g := p.Free(), p.Free([]uint64{}...), p.Free(words...); e != api.ErrNil || f != api.ErrNil || g != api.ErrNil {
			t.Error("Free", e, f, g)
		}
		if n, e := p.Gather(); n != 0 || e != api.ErrNil {
			t.Error("Gather", n, e)
		}
		if a, b, c, e := p.Lists(); len(a)+len(b)+len(c) != 0 || e != api.ErrNil {
			t.Error("Lists", a, b, c, e)
		}
	}
}

// A Page that New didn't make has no blocks, and no call of it panics.
func TestZeroValue(t *testing.T) {
	p := &page.Page{}
	if p.Run() != (geo.Run{}) || p.Used() != 0 || p.Made() != 0 {
		t.Error("Run, Used, Made", p.Run(), p.Used(), p.Made())
	}
	if addr, e := p.Alloc(); addr != 0 || e != api.ErrFull {
		t.Error("Alloc", addr, e)
	}
	if e, f := p.Free(), p.Free(0); e != api.OK || f != api.ErrArg {
		t.Error("Free", e, f)
	}
	if ok, e := p.Post(16, 0, 0); ok || e != api.ErrArg {
		t.Error("Post", ok, e)
	}
	if n, e := p.Gather(); n != 0 || e != api.OK {
		t.Error("Gather", n, e)
	}
	p.Cell().Store(16)
	if n, e := p.Gather(); n != 0 || e != api.ErrNil {
		t.Error("Gather", n, e)
	}
	if a, b, c, e := p.Lists(); len(a)+len(b)+len(c) != 0 || e != api.ErrNil {
		t.Error("Lists", a, b, c, e)
	}
}

// P9.1: the cell that Cell answers is the page's own, always the same one.
func TestCell(t *testing.T) {
	w := newTwin(t, size, geo.Run{From: 1024, Size: 64, N: 4})
	other := newTwin(t, size, w.run)
	c := w.p.Cell()
	if c == nil || c != w.p.Cell() || c == other.p.Cell() {
		t.Fatal("not one cell a page")
	}
	c.Store(0)
	w.asked, w.tag = 1, 1
	w.holds("a Store of the cell")
	other.holds("a Store of another one's cell")
	l := w.allocs(2)
	c.Store(l[1])
	w.asked, w.tag, w.posted = 2, 2, []uint64{l[1]}
	write(t, w.m, l[1], 0)
	w.link(l[1], 0)
	w.holds("a block that is laid on the cell")
	w.gather()
}

// P9.2: blocks are made four by four, as many as there are left; all are handed out, rising; then ErrFull.
func TestAllocOfAll(t *testing.T) {
	for _, s := range []uint64{16, 17, 24, 100} {
		for n := 1; n <= 14; n++ {
			w := newTwin(t, size, geo.Run{From: 1024, Size: s, N: n})
			for i := range n {
				l := w.allocs(1)
				if l[0] != w.block(i) {
					t.Fatalf("the block %d of %d: %d", i, n, l[0])
				}
				if made := min(n, i/4*4+4); w.p.Made() != made {
					t.Fatalf("%d of %d handed out: %d made; wanted %d", i+1, n, w.p.Made(), made)
				}
			}
			for range 3 {
				if addr := w.alloc(); addr != 0 {
					t.Fatalf("Alloc of a full page: %d", addr)
				}
			}
			if e := w.frees(w.block(n - 1)); e != api.OK {
				t.Fatalf("Free of a full page: error %d", e)
			}
			if addr := w.alloc(); addr != w.block(n-1) {
				t.Fatalf("Alloc behind a Free: %d", addr)
			}
			w.alloc()
		}
	}
}

// P9.2: a run of the most blocks, up to the memory's last byte.
func TestAllocOfVeryMany(t *testing.T) {
	m := memory(t, 32768)
	r := geo.Run{From: 16384, Size: 16, N: 1024}
	p, e := page.New(m, r)
	if e != api.OK {
		t.Fatal(e)
	}
	var all []uint64
	for i := range 1024 {
		addr, e := p.Alloc()
		if addr != r.From+uint64(i)*16 || e != api.OK || p.Used() != i+1 || p.Made() != i/4*4+4 {
			t.Fatalf("Alloc %d: %d, error %d, %d used, %d made", i, addr, e, p.Used(), p.Made())
		}
		all = append(all, addr)
	}
	if addr, e := p.Alloc(); addr != 0 || e != api.ErrFull {
		t.Errorf("Alloc of a full page: %d, error %d", addr, e)
	}
	for i, addr := range all[:512] {
		head, tag := p.Cell().Load()
		if ok, e := p.Post(addr, head, tag); !ok || e != api.OK {
			t.Fatalf("Post %d: %t, error %d", i, ok, e)
		}
	}
	if e := p.Free(all[512:]...); e != api.OK || p.Used() != 512 {
		t.Errorf("Free of many: error %d, %d used", e, p.Used())
	}
	if n, e := p.Gather(); n != 512 || e != api.OK || p.Used() != 0 {
		t.Errorf("Gather: %d, error %d, %d used", n, e, p.Used())
	}
	want := slices.Clone(all[:512])
	slices.Reverse(want)
	rest := slices.Clone(all[512:])
	slices.Reverse(rest)
	want = append(want, rest...)
	if a, b, c, e := p.Lists(); len(a)+len(c) != 0 || !slices.Equal(b, want) || e != api.OK {
		t.Errorf("Lists: %d, %d, %d blocks, error %d", len(a), len(b), len(c), e)
	}
	for i, addr := range want {
		if got, e := p.Alloc(); got != addr || e != api.OK {
			t.Fatalf("Alloc %d: %d, error %d; wanted %d", i, got, e, addr)
		}
	}
}

// P9.2: what was freed is handed out only once the free list has none, the last one first; and ahead of what isn't made yet.
func TestAllocOfTheLocalList(t *testing.T) {
	w := newTwin(t, size, geo.Run{From: 1024, Size: 32, N: 6})
	l := w.allocs(3)
	w.frees(l[1])
	w.frees(l[0])
	w.frees(l[2])
	for i, want := range []uint64{w.block(3), l[2], l[0], l[1], w.block(4), w.block(5), 0} {
		if got := w.alloc(); got != want {
			t.Fatalf("Alloc %d: %d; wanted %d", i, got, want)
		}
	}
}

// P9.2: one that is freed while the free list has none, and some are still to be made, is handed out, and none are made.
func TestAllocMakesNoneTooEarly(t *testing.T) {
	w := newTwin(t, size, geo.Run{From: 1024, Size: 32, N: 9})
	l := w.allocs(4)
	w.frees(l[2])
	if addr := w.alloc(); addr != l[2] || w.p.Made() != 4 {
		t.Errorf("Alloc: %d, %d made", addr, w.p.Made())
	}
	if addr := w.alloc(); addr != w.block(4) || w.p.Made() != 8 {
		t.Errorf("Alloc: %d, %d made", addr, w.p.Made())
	}
}

// P9.2: an Alloc doesn't gather: what others posted isn't handed out.
func TestAllocLeavesWhatIsPosted(t *testing.T) {
	w := newTwin(t, size, geo.Run{From: 1024, Size: 32, N: 2})
	l := w.allocs(2)
	w.postAll(l...)
	if addr := w.alloc(); addr != 0 {
		t.Errorf("Alloc: %d", addr)
	}
	w.gather()
	if addr := w.alloc(); addr != l[1] {
		t.Errorf("Alloc: %d", addr)
	}
}

// orders hands on all orders of some.
func orders(l []uint64, yield func(l []uint64)) {
	var rest func(k int)
	rest = func(k int) {
		if k == len(l) {
			yield(slices.Clone(l))
			return
		}
		for i := k; i < len(l); i++ {
			l[k], l[i] = l[i], l[k]
			rest(k + 1)
			l[k], l[i] = l[i], l[k]
		}
	}
	rest(0)
}

// P9.2: blocks freed in any order, many in one call as one by one.
func TestFreeInAnyOrder(t *testing.T) {
	blocks := []uint64{1024, 1072, 1120, 1168, 1216}
	orders(blocks, func(l []uint64) {
		for at := range len(l) + 1 {
			w := newTwin(t, 2048, geo.Run{From: 1024, Size: 48, N: 6})
			w.allocs(5)
			for _, a := range l[:at] {
				if e := w.frees(a); e != api.OK {
					t.Fatalf("Free(%d): error %d", a, e)
				}
			}
			if e := w.frees(l[at:]...); e != api.OK {
				t.Fatalf("Free(%v): error %d", l[at:], e)
			}
			if w.p.Used() != 0 {
				t.Fatalf("all freed: %d used", w.p.Used())
			}
		}
	})
}

// P9.2: of none nothing changes, whether any are used, or not.
func TestFreeOfNone(t *testing.T) {
	w := newTwin(t, size, geo.Run{From: 1024, Size: 32, N: 6})
	for range 3 {
		if e, f := w.frees(), w.frees([]uint64{}...); e != api.OK || f != api.OK {
			t.Errorf("Free of none: errors %d, %d", e, f)
		}
		w.alloc()
	}
}

// wrong is an address that may not be given back, and what a Free of it answers.
type wrong struct {
	addr uint64
	e    api.Errno
}

// wrongs are those of a run from 1024, of 48 bytes and 10 blocks, of which 4 are made.
func wrongs() []wrong {
	return []wrong{
		{0, api.ErrRange}, {1, api.ErrRange}, {48, api.ErrRange}, {976, api.ErrRange}, {1023, api.ErrRange},
		{1025, api.ErrNone}, {1032, api.ErrNone}, {1071, api.ErrNone}, {1073, api.ErrNone}, {1168 + 47, api.ErrNone},
		{1216, api.ErrNone}, {1217, api.ErrNone}, {1264, api.ErrNone}, {1456, api.ErrNone}, {1503, api.ErrNone},
		{1504, api.ErrRange}, {1505, api.ErrRange}, {1552, api.ErrRange}, {size, api.ErrRange}, {size + 1024, api.ErrRange},
		{1 << 32, api.ErrRange}, {1<<32 + 1024, api.ErrRange}, {1<<63 + 1024, api.ErrRange}, {greatest - 47, api.ErrRange}, {greatest, api.ErrRange},
	}
}

// P9.2: addresses below the run, between two blocks, beyond its end, of blocks that aren't made: refused, and those ahead are freed, those behind not.
func TestFreeOfWrongOnes(t *testing.T) {
	for _, x := range wrongs() {
		w := newTwin(t, size, geo.Run{From: 1024, Size: 48, N: 10})
		l := w.allocs(4)
		if e := w.frees(x.addr); e != x.e || w.p.Used() != 4 {
			t.Errorf("Free(%d): error %d, %d used; wanted error %d", x.addr, e, w.p.Used(), x.e)
		}
		if e := w.frees(x.addr, l[0]); e != x.e || w.p.Used() != 4 {
			t.Errorf("Free(%d) ahead of another one: error %d, %d used; wanted error %d", x.addr, e, w.p.Used(), x.e)
		}
		if e := w.frees(l[2], l[0], x.addr, l[3], 0, greatest); e != x.e || w.p.Used() != 2 {
			t.Errorf("Free(%d) in the midst of others: error %d, %d used; wanted error %d", x.addr, e, w.p.Used(), x.e)
		}
		if e := w.frees(l[1], l[3]); e != api.OK || w.p.Used() != 0 {
			t.Errorf("Free behind that: error %d, %d used", e, w.p.Used())
		}
		if e := w.frees(x.addr); e != x.e {
			t.Errorf("Free(%d) with none used: error %d; wanted %d", x.addr, e, x.e)
		}
	}
}

// P9.2: of two that may not be, the first one tells.
func TestFreeTellsTheFirst(t *testing.T) {
	w := newTwin(t, size, geo.Run{From: 1024, Size: 48, N: 10})
	w.allocs(2)
	if e := w.frees(1025, 0); e != api.ErrNone {
		t.Errorf("Free: error %d", e)
	}
	if e := w.frees(0, 1025); e != api.ErrRange {
		t.Errorf("Free: error %d", e)
	}
}

// P9.2: nothing is made in a new page: no block of it may be given back, nor posted.
func TestFreeOfBlocksThatAreNotMade(t *testing.T) {
	w := newTwin(t, size, geo.Run{From: 1024, Size: 48, N: 10})
	for i := range 10 {
		if e := w.frees(w.block(i)); e != api.ErrNone {
			t.Errorf("Free of the block %d: error %d", i, e)
		}
		w.posts(w.block(i), 0, 0)
	}
	w.alloc()
	for i := 4; i < 10; i++ {
		if e := w.frees(w.block(i)); e != api.ErrNone {
			t.Errorf("Free of the block %d: error %d", i, e)
		}
		w.posts(w.block(i), 0, 0)
	}
}

// P9.2: one that is made may not be freed with none used, neither alone, nor behind the last one that is used.
func TestFreeWithNoneUsed(t *testing.T) {
	w := newTwin(t, size, geo.Run{From: 1024, Size: 48, N: 10})
	l := w.allocs(2)
	if e := w.frees(l[0], l[1], w.block(2)); e != api.ErrNone || w.p.Used() != 0 {
		t.Errorf("Free of more than are used: error %d, %d used", e, w.p.Used())
	}
	for i := range 4 {
		if e := w.frees(w.block(i)); e != api.ErrNone {
			t.Errorf("Free with none used: error %d", e)
		}
	}
}

// P9.2: a page counts how many are used, not which: one that is given back twice is pushed twice, if as many are used.
func TestFreeOfTheSameTwice(t *testing.T) {
	w := newTwin(t, size, geo.Run{From: 1024, Size: 48, N: 4})
	l := w.allocs(3)
	if e := w.p.Free(l[1], l[1]); e != api.OK || w.p.Used() != 1 {
		t.Errorf("Free: error %d, %d used", e, w.p.Used())
	}
	if a, b, c, e := w.p.Lists(); len(a)+len(b)+len(c) != 0 || e != api.ErrRange {
		t.Errorf("Lists: %v, %v, %v, error %d", a, b, c, e)
	}
	for i, want := range []uint64{w.block(3), l[1], l[1]} {
		if got, e := w.p.Alloc(); got != want || e != api.OK {
			t.Errorf("Alloc %d: %d, error %d; wanted %d", i, got, e, want)
		}
	}
	if got, e := w.p.Alloc(); got != 0 || e != api.ErrFull {
		t.Errorf("Alloc: %d, error %d", got, e)
	}
}

// A list that is handed in stays, its spare room too.
func TestFreeLeavesTheList(t *testing.T) {
	w := newTwin(t, size, geo.Run{From: 1024, Size: 48, N: 4})
	l := w.allocs(4)
	l = []uint64{l[3], l[0], l[2], l[1], 7}
	was := slices.Clone(l)
	if e := w.frees(l[:3]...); e != api.OK {
		t.Errorf("Free: error %d", e)
	}
	if !slices.Equal(l, was) {
		t.Errorf("the list is another one: %v; wanted %v", l, was)
	}
}

// P9.3: what is posted with the tag of now stands ahead of what was there, and stays used.
func TestPost(t *testing.T) {
	w := newTwin(t, size, geo.Run{From: 1024, Size: 48, N: 10})
	l := w.allocs(5)
	for i, a := range []uint64{l[3], l[0], l[4]} {
		head, tag := w.load()
		if !w.posts(a, head, tag) || w.p.Used() != 5 {
			t.Fatalf("Post %d doesn't go, or %d are used", i, w.p.Used())
		}
	}
	if _, _, posted, _ := w.p.Lists(); !slices.Equal(posted, []uint64{l[4], l[0], l[3]}) {
		t.Errorf("posted: %v", posted)
	}
}

// P9.3: with any other tag a Post doesn't go; the word at the address is head all the same, and the cell was asked.
func TestPostThatIsLate(t *testing.T) {
	w := newTwin(t, size, geo.Run{From: 1024, Size: 48, N: 10})
	l := w.allocs(4)
	w.postAll(l[0], l[1])
	for _, tag := range []uint64{0, 1, 3, 4, 1 << 32, 1<<32 + 2, 1<<63 + 2, greatest, l[1], l[0]} {
		for _, head := range append(beyond(), 0, l[0], l[1], l[2], l[3]) {
			if w.posts(l[2], head, tag) {
				t.Fatalf("Post of tag %d goes", tag)
			}
		}
	}
	w.postAll(l[2])
	w.gather()
	if w.posts(l[3], 0, 3) {
		t.Error("Post behind a Gather goes")
	}
	w.postAll(l[3])
}

// P9.3: ErrRange, or ErrNone, as Free; the cell isn't asked, and nothing is written.
func TestPostOfWrongOnes(t *testing.T) {
	for _, x := range wrongs() {
		w := newTwin(t, size, geo.Run{From: 1024, Size: 48, N: 10})
		l := w.allocs(4)
		w.postAll(l[1])
		for _, tag := range []uint64{0, 1, 2, greatest} {
			if ok, e := w.p.Post(x.addr, l[1], tag); ok || e != x.e {
				t.Errorf("Post(%d): %t, error %d; wanted %d", x.addr, ok, e, x.e)
			}
			w.posts(x.addr, l[1], tag)
		}
	}
}

// P9.3: a Post goes whatever is used; a Gather of more than are used is refused then, and the cell is 0.
func TestPostWithNoneUsed(t *testing.T) {
	w := newTwin(t, size, geo.Run{From: 1024, Size: 48, N: 10})
	l := w.allocs(4)
	w.frees(l...)
	b := told(t, w.m)
	head, tag := w.p.Cell().Load()
	if ok, e := w.p.Post(l[0], head, tag); !ok || e != api.OK {
		t.Errorf("Post: %t, error %d", ok, e)
	}
	if word, tag, asked := look(w.p.Cell()); word != l[0] || tag != 1 || asked != 2 {
		t.Errorf("the cell: %d %d, asked %d times", word, tag, asked)
	}
	if n, e := w.p.Gather(); n != 0 || e != api.ErrRange {
		t.Errorf("Gather: %d, error %d", n, e)
	}
	w.asked, w.tag = 3, 2
	write(t, w.m, l[0], 0)
	if !slices.Equal(told(t, w.m), b) {
		t.Error("more than the link was written")
	}
	w.holds("Gather")
}

// P9.3: of none 0: but the cell was asked, and written.
func TestGatherOfNone(t *testing.T) {
	w := newTwin(t, size, geo.Run{From: 1024, Size: 48, N: 10})
	w.gather()
	w.gather()
	l := w.allocs(3)
	w.gather()
	w.frees(l[1])
	w.gather()
	if word, tag, asked := look(w.p.Cell()); word != 0 || tag != 4 || asked != 4 {
		t.Errorf("the cell: %d %d, asked %d times", word, tag, asked)
	}
}

// P9.3: of one, of some, of all: they stand ahead of the local list, in their order, and are handed out behind the free one.
func TestGather(t *testing.T) {
	for some := 1; some <= 7; some++ {
		for local := 0; some+local <= 7; local++ {
			w := newTwin(t, size, geo.Run{From: 1024, Size: 48, N: 10})
			l := w.allocs(7)
			w.frees(l[:local]...)
			w.postAll(l[7-some:]...)
			w.gather()
			if w.p.Used() != 7-some-local {
				t.Fatalf("Gather of %d: %d used", some, w.p.Used())
			}
			want := []uint64{w.block(7)}
			for i := range some {
				want = append(want, l[6-i])
			}
			for i := range local {
				want = append(want, l[local-1-i])
			}
			for i, a := range want {
				if got := w.alloc(); got != a {
					t.Fatalf("Alloc %d behind a Gather of %d: %d; wanted %d", i, some, got, a)
				}
			}
		}
	}
}

// P9.3: a Gather doesn't touch the free list.
func TestGatherLeavesTheFreeList(t *testing.T) {
	w := newTwin(t, size, geo.Run{From: 1024, Size: 48, N: 10})
	l := w.allocs(5)
	w.postAll(l[0], l[2])
	w.gather()
	if free, local, _, _ := w.p.Lists(); len(free) != 3 || len(local) != 2 {
		t.Errorf("Lists: %v, %v", free, local)
	}
}

// refused is a page whose first blocks were posted, so that the cell tells them falling, and the memory ahead of a fault.
func refused(t *testing.T, used, posted int) (*twin, []uint64) {
	t.Helper()
	w := newTwin(t, size, geo.Run{From: 1024, Size: 48, N: 10})
	l := w.allocs(used)
	w.frees(l[used-1])
	w.postAll(l[:posted]...)
	slices.Reverse(l[:posted])
	return w, l
}

// refusesGather says that a Gather is refused, and leaves all but the cell, which is 0, and that the next ones go on as ever.
func (w *twin) refusesGather(what string) {
	w.t.Helper()
	b := told(w.t, w.m)
	if a, l, c, e := w.p.Lists(); len(a)+len(l)+len(c) != 0 || e != api.ErrRange {
		w.t.Errorf("%s: Lists: %v, %v, %v, error %d", what, a, l, c, e)
	}
	if _, _, asked := look(w.p.Cell()); asked != w.asked {
		w.t.Errorf("%s: Lists asks the cell", what)
	}
	if n, e := w.p.Gather(); n != 0 || e != api.ErrRange {
		w.t.Errorf("%s: Gather: %d, error %d", what, n, e)
	}
	w.bytes, w.posted = b, nil
	w.asked++
	w.tag++
	w.holds(what)
	w.gather()
}

// P9.3: links that were written over, of the first block that is posted, of one in the midst, of the last one.
func TestGatherOfLinksThatWereWrittenOver(t *testing.T) {
	for at := range 4 {
		for _, x := range beyond() {
			w, l := refused(t, 6, 4)
			write(t, w.m, l[at], x)
			w.refusesGather("a link beyond memory")
		}
		for back := 0; back <= at; back++ {
			w, l := refused(t, 6, 4)
			write(t, w.m, l[at], l[back])
			w.refusesGather("a ring")
		}
	}
}

// P9.3: a link that is 0 ends what is there: as many are gathered, and the rest stays used.
func TestGatherOfLinksThatAreNought(t *testing.T) {
	for at := range 4 {
		w, l := refused(t, 6, 4)
		write(t, w.m, l[at], 0)
		w.link(l[at], 0)
		w.posted = w.posted[:at+1]
		w.holds("a link of 0")
		w.gather()
		if w.p.Used() != 5-(at+1) {
			t.Errorf("Gather of %d: %d used", at+1, w.p.Used())
		}
	}
}

// P9.3: more than are used: nothing is gathered, and the cell is 0; as many as are used go.
func TestGatherOfMoreThanAreUsed(t *testing.T) {
	for used := range 5 {
		for many := range 5 {
			w := newTwin(t, size, geo.Run{From: 1024, Size: 48, N: 4})
			l := w.allocs(4)
			w.frees(l[:4-used]...)
			// As posted ones the last blocks hang together; those that are also in the local list aren't written.
			b := told(t, w.m)
			next := uint64(0)
			for i := range many {
				write(t, w.m, 2048+uint64(i)*64, next)
				next = 2048 + uint64(i)*64
			}
			w.p.Cell().Store(next)
			n, e := w.p.Gather()
			if many > used && (n != 0 || e != api.ErrRange || w.p.Used() != used) {
				t.Errorf("Gather of %d with %d used: %d, error %d, %d used", many, used, n, e, w.p.Used())
			}
			if many <= used && (n != many || e != api.OK || w.p.Used() != used-many) {
				t.Errorf("Gather of %d with %d used: %d, error %d, %d used", many, used, n, e, w.p.Used())
			}
			if word, tag, asked := look(w.p.Cell()); word != 0 || tag != 2 || asked != 2 {
				t.Errorf("the cell: %d %d, asked %d times", word, tag, asked)
			}
			if _, local, _, e := w.p.Lists(); many > used && (e != api.OK || len(local) != 4-used || !slices.Equal(told(t, w.m)[:2048], b[:2048])) {
				t.Errorf("Gather of %d with %d used: %v, error %d", many, used, local, e)
			}
		}
	}
}

// P9.3: what hangs on the cell may have as many as the page has blocks, not one more, whatever is used.
func TestGatherOfMoreThanThereAre(t *testing.T) {
	for many := 3; many <= 5; many++ {
		w := newTwin(t, size, geo.Run{From: 1024, Size: 48, N: 4})
		w.allocs(4)
		next, row := uint64(0), []uint64(nil)
		for i := range many {
			addr := 2048 + uint64(i)*64
			write(t, w.m, addr, next)
			next, row = addr, slices.Insert(row, 0, addr)
		}
		w.p.Cell().Store(next)
		w.asked, w.tag = 1, 1
		if many > 4 {
			w.refusesGather("more than there are")
			continue
		}
		w.bytes, w.posted = told(t, w.m), row
		w.holds("not more than there are")
		w.gather()
	}
}

// P9.3: what is on the cell may be no address with a link at all.
func TestGatherOfWordsThatAreNoAddresses(t *testing.T) {
	for _, x := range beyond() {
		w := newTwin(t, size, geo.Run{From: 1024, Size: 48, N: 4})
		w.allocs(4)
		w.p.Cell().Store(x)
		w.asked, w.tag = 1, 1
		w.refusesGather("a word beyond memory")
	}
}

// P9.2: of a free list that was written over, the block that is its first one is still handed out; behind it ErrRange, as often as it is asked, and nothing changes.
func TestAllocOfAFreeListThatWasWrittenOver(t *testing.T) {
	for _, x := range beyond() {
		for ahead := range 3 {
			w := newTwin(t, size, geo.Run{From: 1024, Size: 48, N: 10})
			w.allocs(1 + ahead)
			w.frees(w.block(0))
			w.postAll(w.block(0))
			next := w.block(1 + ahead)
			write(t, w.m, next, x)
			listsRefused(t, w.p)
			addr, e := w.p.Alloc()
			if addr != next || e != api.OK {
				t.Fatalf("Alloc: %d, error %d; wanted %d", addr, e, next)
			}
			listsRefused(t, w.p)
			if ahead == 2 {
				continue // that one was the last of the list
			}
			b, used := told(t, w.m), w.p.Used()
			for range 3 {
				if addr, e := w.p.Alloc(); addr != 0 || e != api.ErrRange {
					t.Fatalf("Alloc: %d, error %d", addr, e)
				}
			}
			if w.p.Used() != used || w.p.Made() != 4 || !slices.Equal(told(t, w.m), b) {
				t.Errorf("an Alloc that is refused: %d used, %d made", w.p.Used(), w.p.Made())
			}
			if word, tag, asked := look(w.p.Cell()); word != w.block(0) || tag != 1 || asked != 2 {
				t.Errorf("the cell: %d %d, asked %d times", word, tag, asked)
			}
		}
	}
}

// P9.2: the last one's link isn't asked for: behind it the free list is the local one, or some that are made, and right again.
func TestAllocOfALastLinkThatWasWrittenOver(t *testing.T) {
	for _, x := range append(beyond(), 8, 1024) {
		w := newTwin(t, size, geo.Run{From: 1024, Size: 48, N: 10})
		w.allocs(3)
		write(t, w.m, w.block(3), x)
		if addr, e := w.p.Alloc(); addr != w.block(3) || e != api.OK {
			t.Fatalf("Alloc: %d, error %d", addr, e)
		}
		listsRefused(t, w.p)
		w.free, w.used = nil, 4
		w.link(w.block(3), x)
		if addr := w.alloc(); addr != w.block(4) {
			t.Errorf("Alloc: %d", addr)
		}
		w.alloc()
		w.frees(w.block(1))
	}
}

// listsRefused says that Lists answers ErrRange, and nothing.
func listsRefused(t *testing.T, p *page.Page) {
	t.Helper()
	_, _, was := look(p.Cell())
	if a, b, c, e := p.Lists(); a != nil || b != nil || c != nil || e != api.ErrRange {
		t.Fatalf("Lists: %v, %v, %v, error %d", a, b, c, e)
	}
	if _, _, asked := look(p.Cell()); asked != was {
		t.Fatal("Lists asks the cell")
	}
}

// P9.3: Lists is refused if any one of the three rows was written over; put right again, it tells them all.
func TestListsThatWereWrittenOver(t *testing.T) {
	w := newTwin(t, size, geo.Run{From: 1024, Size: 48, N: 10})
	l := w.allocs(6)
	w.frees(l[0], l[1])
	w.postAll(l[2], l[3])
	rows := [][]uint64{{w.block(6), w.block(7)}, {l[1], l[0]}, {l[3], l[2]}}
	for i, row := range rows {
		for at, addr := range row {
			was, _ := w.m.Load(addr, 8)
			for _, x := range append(beyond(), addr, row[0]) {
				write(t, w.m, addr, x)
				listsRefused(t, w.p)
			}
			// Of a posted row nobody counted how many there are: a 0 just ends it.
			if at == 0 && i < 2 {
				write(t, w.m, addr, 0)
				listsRefused(t, w.p)
			}
			write(t, w.m, addr, was)
			w.holds("put right again")
		}
	}
}

// P9.3: the rows are new memory: whoever gets them may write on them, their spare room too.
func TestListsAreNew(t *testing.T) {
	w := newTwin(t, size, geo.Run{From: 1024, Size: 48, N: 10})
	l := w.allocs(6)
	w.frees(l[0], l[1])
	w.postAll(l[2], l[3])
	for range 3 {
		free, local, posted, e := w.p.Lists()
		if e != api.OK || len(free) != 2 || len(local) != 2 || len(posted) != 2 {
			t.Fatalf("Lists: %v, %v, %v, error %d", free, local, posted, e)
		}
		for i, row := range [][]uint64{free, local, posted} {
			row = row[:cap(row)]
			for j := range row {
				row[j] = uint64(i)
			}
			for j, other := range [][]uint64{free, local, posted} {
				if i != j && other[0] == uint64(i) {
					t.Fatal("two rows share their memory")
				}
			}
		}
		w.holds("rows that were written on")
	}
}

// P9.3: how often the cell was asked behind each call: by Post and Gather once, by a Post that may not be, and all others, not at all.
func TestAsked(t *testing.T) {
	w := newTwin(t, size, geo.Run{From: 1024, Size: 48, N: 4})
	p, c := w.p, w.p.Cell()
	for i, x := range []struct {
		call func()
		once int
	}{
		{func() { p.Alloc() }, 0},
		{func() { p.Alloc() }, 0},
		{func() { p.Post(1024, 0, 0) }, 1},
		{func() { p.Post(1072, 0, 0) }, 1},
		{func() { p.Post(1072, 1024, 1) }, 1},
		{func() { p.Post(1073, 0, 2) }, 0},
		{func() { p.Post(0, 0, 2) }, 0},
		{func() { p.Lists() }, 0},
		{func() { p.Cell() }, 0},
		{func() { p.Used(); p.Made(); p.Run() }, 0},
		{func() { p.Free() }, 0},
		{func() { p.Free(1024, 0) }, 0},
		{func() { p.Gather() }, 1},
		{func() { p.Gather() }, 1},
		{func() { p.Alloc() }, 0},
		{func() { p.Lists() }, 0},
	} {
		was := cell.Asked(c)
		x.call()
		if n := cell.Asked(c) - was; n != x.once {
			t.Errorf("the call %d asks the cell %d times; wanted %d", i, n, x.once)
		}
	}
}

// P9.1 to P9.4: pages of one memory, side by side, have nothing of one another.
func TestPagesSideBySide(t *testing.T) {
	m := memory(t, size)
	runs := []geo.Run{{From: 64, Size: 16, N: 20}, {From: 64 + 320, Size: 40, N: 11}, {From: 64 + 320 + 440, Size: 100, N: 7}}
	var twins []*twin
	for _, r := range runs {
		p, e := page.New(m, r)
		if e != api.OK {
			t.Fatal(e)
		}
		twins = append(twins, &twin{t: t, m: m, p: p, run: r, bytes: told(t, m)})
	}
	// They have their bytes in common, since they are held against the one memory.
	for _, w := range twins {
		w.bytes = twins[0].bytes
	}
	r := rand.New(rand.NewPCG(9, 2))
	held := make([][]uint64, len(twins))
	for range 4000 {
		i := r.IntN(len(twins))
		held[i] = twins[i].random(r, held[i])
	}
}

// random does a call that a user could do, those that are refused too, and answers what is handed out then.
func (w *twin) random(r *rand.Rand, held []uint64) []uint64 {
	w.t.Helper()
	pick := func() uint64 {
		if len(held) == 0 {
			return 0
		}
		i := r.IntN(len(held))
		addr := held[i]
		held = slices.Delete(held, i, i+1)
		return addr
	}
	switch r.IntN(10) {
	case 0, 1, 2, 3:
		if addr := w.alloc(); addr != 0 {
			w.fill(addr)
			held = append(held, addr)
		}
	case 4:
		if addr := pick(); addr != 0 {
			w.frees(addr)
		}
	case 5:
		var l []uint64
		for range r.IntN(4) {
			if addr := pick(); addr != 0 {
				l = append(l, addr)
			}
		}
		if r.IntN(3) == 0 {
			l = append(l, w.strange(r))
		}
		w.frees(l...)
	case 6, 7:
		addr := pick()
		if addr == 0 {
			break
		}
		head, tag := w.load()
		if r.IntN(4) == 0 {
			tag -= 1 + r.Uint64N(3)
		}
		if !w.posts(addr, head, tag) {
			held = append(held, addr)
		}
	case 8:
		w.gather()
	case 9:
		addr := w.strange(r)
		w.frees(addr)
		w.posts(addr, r.Uint64(), w.tag)
	}
	w.parts(held)
	return held
}

// strange is an address that may not be given back, wherever it is.
func (w *twin) strange(r *rand.Rand) uint64 {
	switch r.IntN(4) {
	case 0:
		return r.Uint64N(w.run.From)
	case 1:
		return w.run.End() + r.Uint64N(1000)
	case 2:
		if w.made < w.run.N {
			return w.block(w.made + r.IntN(w.run.N-w.made))
		}
	}
	return w.block(r.IntN(w.run.N)) + 1 + r.Uint64N(w.run.Size-1)
}

// parts holds P9.4: each block that is made is in one of the three rows, or handed out, and no other is.
func (w *twin) parts(held []uint64) {
	w.t.Helper()
	free, local, posted, e := w.p.Lists()
	if e != api.OK {
		w.t.Fatalf("Lists: error %d", e)
	}
	all := slices.Sorted(slices.Values(slices.Concat(free, local, posted, held)))
	if len(all) != w.p.Made() || len(free)+len(local)+w.p.Used() != w.p.Made() || len(posted)+len(held) != w.p.Used() {
		w.t.Fatalf("%d free, %d local, %d posted, %d handed out; %d made, %d used", len(free), len(local), len(posted), len(held), w.p.Made(), w.p.Used())
	}
	for i, addr := range all {
		if addr != w.block(i) {
			w.t.Fatalf("the blocks %v", all)
		}
	}
}

// P9.1 to P9.4: long rows of calls of pages of all kinds.
func TestLongRows(t *testing.T) {
	r := rand.New(rand.NewPCG(9, 1))
	for n := 1; n <= 20; n++ {
		for _, s := range []uint64{16, 17, 48, 96} {
			w := newTwin(t, size, geo.Run{From: 1 + r.Uint64N(2000), Size: s, N: n})
			var held []uint64
			for range 300 {
				held = w.random(r, held)
			}
		}
	}
}

// P9.1 to P9.4: all rows of six calls of a page of five blocks.
func TestShortRows(t *testing.T) {
	const long, kinds = 6, 7
	rows := 1
	for range long {
		rows *= kinds
	}
	for row := range rows {
		w := newTwin(t, 1024, geo.Run{From: 512, Size: 16, N: 5})
		var held []uint64
		for range long {
			held = w.step(row%kinds, held)
			row /= kinds
		}
		w.parts(held)
	}
}

// step does one call of seven, and answers what is handed out then.
func (w *twin) step(kind int, held []uint64) []uint64 {
	w.t.Helper()
	last := len(held) - 1
	switch {
	case kind == 0:
		if addr := w.alloc(); addr != 0 {
			w.fill(addr)
			held = append(held, addr)
		}
	case kind == 1:
		w.gather()
	case kind == 2 && w.made < w.run.N:
		w.frees(w.block(w.made))
	case kind == 2:
		w.frees(w.run.End())
	case last < 0 && w.used == 0:
		w.frees(w.block(0))
	case last < 0:
		w.frees()
	case kind == 3:
		w.frees(held[0])
		return held[1:]
	case kind == 4:
		w.frees(held[last], held[0]+1, held[0])
		return held[:last]
	case kind == 5:
		w.posts(held[0], w.word(), w.tag)
		return held[1:]
	case kind == 6:
		w.posts(held[last], 0, w.tag-1)
	}
	return held
}

// poster is a thread that gives some blocks back to a page that it hasn't: a look at the cell, then a Post, till it goes.
type poster struct {
	blocks    []uint64
	head, tag uint64
	looked    bool
}

func (p *poster) step(w *twin) {
	if !p.looked {
		p.head, p.tag = w.load()
		p.looked = true
		return
	}
	p.looked = false
	if w.posts(p.blocks[0], p.head, p.tag) {
		p.blocks = p.blocks[1:]
	}
}

// P9.4: in whatever turns three threads post, and the page's own one gathers, frees and allocates, no block is lost, and none is there twice.
func TestTurns(t *testing.T) {
	const long = 7
	for row := range 1 << (2 * long) {
		w := newTwin(t, 1024, geo.Run{From: 512, Size: 32, N: 7})
		l := w.allocs(7)
		threads := []*poster{{blocks: l[0:2]}, {blocks: l[2:4]}, {blocks: l[4:5]}}
		own := slices.Clone(l[5:])
		owner := func() {
			if _, tag, _ := look(w.p.Cell()); tag%2 == 1 && len(own) > 0 {
				w.frees(own[0])
				own = own[1:]
				return
			}
			w.gather()
			if addr := w.alloc(); addr != 0 {
				own = append(own, addr)
			}
		}
		held := func() []uint64 {
			return slices.Concat(own, threads[0].blocks, threads[1].blocks, threads[2].blocks)
		}
		for range long {
			if i := row % 4; i == 3 {
				owner()
			} else if len(threads[i].blocks) > 0 {
				threads[i].step(w)
			}
			w.parts(held())
			row /= 4
		}
		for _, p := range threads {
			for len(p.blocks) > 0 {
				p.step(w)
			}
		}
		w.gather()
		w.frees(own...)
		own = nil
		w.parts(nil)
		if w.p.Used() != 0 {
			t.Fatalf("all given back: %d used", w.p.Used())
		}
	}
}

// P9.4: a block that came back between a look and a Post isn't taken for the one that was seen: the tag tells.
func TestBlockThatCameBack(t *testing.T) {
	w := newTwin(t, size, geo.Run{From: 1024, Size: 48, N: 4})
	l := w.allocs(4)
	w.postAll(l[0])
	head, tag := w.load()
	w.gather()
	if addr := w.alloc(); addr != l[0] {
		t.Fatalf("Alloc: %d", addr)
	}
	w.postAll(l[1], l[0])
	if word, _, _ := look(w.p.Cell()); word != head {
		t.Fatalf("the cell: %d; wanted %d", word, head)
	}
	if w.posts(l[2], head, tag) {
		t.Error("Post goes")
	}
	w.postAll(l[2])
	w.gather()
	w.parts([]uint64{l[3]})
}
