package heap_test

import (
	"bytes"
	"math"
	"math/rand/v2"
	"slices"
	"testing"

	"allotment/api"
	"allotment/arena"
	"allotment/cell"
	"allotment/class"
	"allotment/heap"
	"allotment/mem"
	"allotment/seg"
)

// noClasses are numbers that no class has.
func noClasses() []int {
	return []int{-1, -2, 12, 13, 16, 255, 256, 1 << 31, 1<<32 + 1, -1 << 31, -1 << 32, math.MaxInt, math.MaxInt - 1, math.MinInt, math.MinInt + 1}
}

// noSlices are numbers of slices that no page of one block has.
func noSlices() []int {
	return []int{0, -1, 16, 17, 31, 256, 257, 1<<32 + 1, -1 << 32, math.MaxInt, math.MinInt, math.MinInt + 1}
}

// beyond are addresses that are in no segment of memories here.
func beyond() []uint64 {
	return []uint64{api.MaxSize - 1, api.MaxSize, api.MaxSize + 1024, api.MaxSize + 17408, 1 << 32, 1<<32 + 1024, 1 << 63, 1<<63 + 1024, math.MaxUint64 - 1023, math.MaxUint64}
}

func memory(t *testing.T, segs int) *mem.Mem {
	t.Helper()
	m, e := mem.New(uint64(segs) * 16384)
	if e != api.OK {
		t.Fatal(e)
	}
	return m
}

func places(t *testing.T, segs, limit int) *arena.Arena {
	t.Helper()
	a, e := arena.New(segs, limit)
	if e != api.OK {
		t.Fatal(e)
	}
	return a
}

// told is all bytes of a memory.
func told(t *testing.T, m *mem.Mem) []byte {
	t.Helper()
	b, e := m.Get(0, m.Size())
	if e != api.OK {
		t.Fatal(e)
	}
	return b
}

// is holds an address against one that is written out.
func (w *twin) is(what string, got, want uint64) {
	w.t.Helper()
	if got != want {
		w.fatalf("%s: %d; wanted %d", what, got, want)
	}
}

func (w *twin) err(what string, got, want api.Errno) {
	w.t.Helper()
	if got != want {
		w.fatalf("%s: error %d; wanted %d", what, got, want)
	}
}

// row holds where the pages of a class begin against a row that is written out.
func (w *twin) row(what string, i, c int, want ...uint64) {
	w.t.Helper()
	if got := w.heaps[i].h.Pages(c); !slices.Equal(got, want) {
		w.fatalf("%s: Pages(%d): %v; wanted %v", what, c, got, want)
	}
	w.holds()
}

// has holds a heap's segments against places that are written out.
func (w *twin) has(what string, i int, want ...int) {
	w.t.Helper()
	var got []int
	for _, s := range w.heaps[i].h.Segs() {
		got = append(got, s.Place())
	}
	if !slices.Equal(got, want) {
		w.fatalf("%s: segments %v; wanted %v", what, got, want)
	}
	w.holds()
}

func (w *twin) grows(i, n int) {
	w.t.Helper()
	for range n {
		w.err("Grow", w.grow(i), api.OK)
	}
}

// locals hands out so many blocks of a class's pages.
func (w *twin) locals(i, c, n int) []uint64 {
	w.t.Helper()
	var l []uint64
	for range n {
		addr := w.local(i, c)
		if addr == 0 {
			w.fatalf("Local(%d): none", c)
		}
		l = append(l, addr)
	}
	return l
}

// fulls makes a page of a class, and hands out all of its blocks; the page is full, once Local of the class asked it again.
func (w *twin) fulls(i, c int) []uint64 {
	w.t.Helper()
	return append([]uint64{w.of(i, c)}, w.locals(i, c, kinds()[c].blocks-1)...)
}

// The chapter's example.
func TestExamples(t *testing.T) {
	a := places(t, 4, 4)
	h, e := heap.New(memory(t, 4), a, 1)
	if e != api.OK {
		t.Fatal(e)
	}
	if e := h.Grow(); e != api.OK || len(h.Segs()) != 1 || a.Given() != 1 {
		t.Fatalf("Grow: error %d, %d segments, %d given", e, len(h.Segs()), a.Given())
	}
	addr, e := h.Fresh(class.Plan{Class: 0, Slices: 1, Usable: 16})
	if addr != 1024 || e != api.OK || !slices.Equal(h.Pages(), []uint64{1024}) {
		t.Fatalf("Fresh: %d, error %d, pages %v", addr, e, h.Pages())
	}
	if e := h.Free(addr); e != api.OK || len(h.Segs()) != 0 || len(h.Pages()) != 0 || a.Given() != 0 || len(a.Regions()) != 0 {
		t.Errorf("Free: error %d, %d segments, pages %v, %d given", e, len(h.Segs()), h.Pages(), a.Given())
	}
}

// P12.1: nil and ErrNil ahead of ErrArg; else a heap that has nothing, and neither memory nor arena is changed.
func TestNew(t *testing.T) {
	m, a := memory(t, 1), places(t, 1, 1)
	for _, x := range []struct {
		m  *mem.Mem
		a  *arena.Arena
		id uint64
		e  api.Errno
	}{
		{nil, nil, 0, api.ErrNil}, {nil, nil, 1, api.ErrNil}, {nil, a, 0, api.ErrNil}, {nil, a, 1, api.ErrNil},
		{m, nil, 0, api.ErrNil}, {m, nil, 1, api.ErrNil}, {m, a, 0, api.ErrArg},
	} {
		if h, e := heap.New(x.m, x.a, x.id); h != nil || e != x.e {
			t.Errorf("New, memory %t, arena %t, id %d: %v, error %d; wanted %d", x.m != nil, x.a != nil, x.id, h != nil, e, x.e)
		}
	}
	for _, id := range []uint64{1, 2, 8, 9, 1 << 32, 1 << 63, math.MaxUint64} {
		b := told(t, m)
		h, e := heap.New(m, a, id)
		if h == nil || e != api.OK || len(h.Segs()) != 0 || len(h.Pages()) != 0 {
			t.Fatalf("New of id %d: %v, error %d", id, h != nil, e)
		}
		if a.Given() != 0 || a.Refused() != 0 || !bytes.Equal(told(t, m), b) {
			t.Errorf("New of id %d changes what it was handed", id)
		}
		if e := h.Grow(); e != api.OK {
			t.Fatalf("Grow: error %d", e)
		}
		if word, tag := h.Segs()[0].Owner().Load(); word != id || tag != 1 {
			t.Errorf("the owner: %d %d; wanted %d", word, tag, id)
		}
		if _, e := h.Fresh(class.Plan{Class: 3}); e != api.OK || h.Free(1024) != api.OK {
			t.Fatalf("Fresh: error %d", e)
		}
	}
}

// P12.1 to P12.4: a nil Heap answers ErrNil, beside it zero, whatever it is asked; the others are zero.
func TestNil(t *testing.T) {
	var h *heap.Heap
	s, _ := seg.New(memory(t, 1), 0)
	for _, c := range append(noClasses(), 0, 1, 11) {
		if addr, e := h.Local(c); addr != 0 || e != api.ErrNil {
			t.Errorf("Local(%d): %d, error %d", c, addr, e)
		}
		for _, n := range append(noSlices(), 1, 15) {
			if addr, e := h.Fresh(class.Plan{Class: c, Slices: n}); addr != 0 || e != api.ErrNil {
				t.Errorf("Fresh: %d, error %d", addr, e)
			}
		}
		if x, e := h.Leave(c); x != nil || e != api.ErrNil {
			t.Errorf("Leave(%d): error %d", c, e)
		}
		if len(h.Pages(c)) != 0 || len(h.Pages(c, 0)) != 0 {
			t.Errorf("Pages(%d)", c)
		}
	}
	for _, addr := range append(beyond(), 0, 1024) {
		if e := h.Free(addr); e != api.ErrNil {
			t.Errorf("Free: error %d", e)
		}
		if n, e := h.Gather(addr); n != 0 || e != api.ErrNil {
			t.Errorf("Gather: %d, error %d", n, e)
		}
	}
	if h.Grow() != api.ErrNil || h.Adopt(nil) != api.ErrNil || h.Adopt(s) != api.ErrNil || len(h.Segs()) != 0 || len(h.Pages()) != 0 {
		t.Error("Grow, Adopt, Segs, or Pages")
	}
	if cell.Asked(s.Owner()) != 0 {
		t.Error("Adopt asks the owner")
	}
}

// A Heap that New didn't make has nothing, and panics nowhere.
func TestZeroValue(t *testing.T) {
	var h heap.Heap
	if addr, e := h.Local(0); addr != 0 || e != api.ErrFull {
		t.Errorf("Local: %d, error %d", addr, e)
	}
	if addr, e := h.Fresh(class.Plan{}); addr != 0 || e != api.ErrFull {
		t.Errorf("Fresh: %d, error %d", addr, e)
	}
	if e := h.Grow(); e == api.OK || len(h.Segs()) != 0 {
		t.Errorf("Grow: error %d", e)
	}
	if e := h.Adopt(&seg.Segment{}); e != api.OK {
		t.Errorf("Adopt: error %d", e)
	}
	if addr, e := h.Fresh(class.Plan{Class: -1, Slices: 1}); addr != 0 || e != api.ErrFull {
		t.Errorf("Fresh: %d, error %d", addr, e)
	}
	if e := h.Free(1024); e != api.ErrNone {
		t.Errorf("Free: error %d", e)
	}
	if s, e := h.Leave(0); s == nil || e != api.OK || len(h.Segs()) != 0 {
		t.Errorf("Leave: error %d", e)
	}
}

// P12.1 to P12.4: a heap of no segments, new, or with all given back, has no block, and takes none.
func TestNoSegments(t *testing.T) {
	w := newTwin(t, 1, 2, 2, 2)
	for range 2 {
		for c := range 12 {
			w.is("Local", w.local(0, c), 0)
			w.is("Fresh", w.of(0, c), 0)
			w.row("none", 0, c)
		}
		for n := 1; n <= 15; n++ {
			w.is("Fresh", w.single(0, n), 0)
		}
		for _, addr := range append(beyond(), 0, 1, 1023, 1024, 16383, 16384, 17408) {
			w.err("Free", w.free(0, addr), api.ErrNone)
			w.gather(0, addr)
		}
		for _, place := range []int{0, 1, 2, 63, 64, -1, math.MaxInt, math.MinInt} {
			if w.leave(0, place) != nil {
				t.Error("Leave")
			}
		}
		w.has("none", 0)
		w.grow(0)
		w.free(0, w.of(0, 5))
	}
}

// P12.1: Pages are those of each class that is handed in, in order, one that is handed in twice twice; of none all; of a number that is no class none.
func TestPages(t *testing.T) {
	w := newTwin(t, 1, 3, 3, 3)
	w.grows(0, 3)
	w.of(0, 0)         // 1024
	w.of(0, 11)        // 2048
	w.fulls(0, 8)      // 6144
	w.single(0, 2)     // 8192
	w.of(0, 8)         // 10240
	w.of(0, 0)         // 12288
	w.single(0, 15)    // 17408
	w.of(0, 10)        // 33792: the first segment has three slices left, the second one none
	w.single(0, 1)     // 13312
	full := w.of(0, 8) // 14336
	w.local(0, 8)      // the page at 6144 is full then
	w.is("Fresh", full, 14336)
	h := w.heaps[0].h
	for _, x := range []struct{ c, want []int }{
		{[]int{0}, []int{1024, 12288}},
		{[]int{8}, []int{10240, 14336, 6144}},
		{[]int{11}, []int{2048}},
		{[]int{10}, []int{33792}},
		{[]int{-1}, []int{8192, 17408, 13312}},
		{[]int{1}, nil},
		{[]int{9}, nil},
		{[]int{11, 0}, []int{2048, 1024, 12288}},
		{[]int{-1, 8, 0}, []int{8192, 17408, 13312, 10240, 14336, 6144, 1024, 12288}},
		{[]int{0, 0}, []int{1024, 12288, 1024, 12288}},
		{[]int{8, 1, 8, 12}, []int{10240, 14336, 6144, 10240, 14336, 6144}},
		{[]int{-1, -1}, []int{8192, 17408, 13312, 8192, 17408, 13312}},
		{nil, []int{1024, 12288, 10240, 14336, 6144, 33792, 2048, 8192, 17408, 13312}},
		{[]int{}, []int{1024, 12288, 10240, 14336, 6144, 33792, 2048, 8192, 17408, 13312}},
		{[]int{0, 1, 2, 3, 4, 5, 6, 7, 8, 9, 10, 11, -1}, []int{1024, 12288, 10240, 14336, 6144, 33792, 2048, 8192, 17408, 13312}},
	} {
		var want []uint64
		for _, n := range x.want {
			want = append(want, uint64(n))
		}
		if got := h.Pages(x.c...); !slices.Equal(got, want) {
			t.Errorf("Pages(%v): %v; wanted %v", x.c, got, want)
		}
	}
	for _, c := range noClasses()[1:] {
		if len(h.Pages(c)) != 0 || len(h.Pages(c, c, 12)) != 0 || !slices.Equal(h.Pages(c, 11, c), []uint64{2048}) {
			t.Errorf("Pages of %d", c)
		}
	}
	if l := h.Pages(slices.Repeat([]int{0, 5, 8}, 10000)...); len(l) != 50000 || l[49999] != 6144 {
		t.Errorf("Pages of many: %d", len(l))
	}
	w.ends()
}

// P12.1, and DOC.md's rules: what is handed in stays, its spare room too; what is answered is new, and what is done to it changes nothing.
func TestLists(t *testing.T) {
	w := newTwin(t, 1, 3, 3, 3)
	w.grows(0, 3)
	w.of(0, 0)
	w.of(0, 0)
	w.of(0, 1)
	w.single(0, 1)
	h := w.heaps[0].h
	in := []int{0, 1, -1, 7, 7, 7, 7, 7, 7}
	first := h.Pages(in[:3]...)
	if !slices.Equal(in, []int{0, 1, -1, 7, 7, 7, 7, 7, 7}) {
		t.Errorf("what was handed in is %v then", in)
	}
	in[0], in[1] = 5, 5
	for _, c := range [][]int{{0, 1, -1}, nil, {0}, {-1}} {
		a, b := h.Pages(c...), h.Pages(c...)
		a = a[:cap(a)]
		for i := range a {
			a[i] = 99
		}
		if slices.Contains(b[:cap(b)], 99) {
			t.Errorf("two answers of Pages(%v) share memory", c)
		}
	}
	if !slices.Equal(first, []uint64{1024, 2048, 3072, 4096}) {
		t.Errorf("Pages: %v", first)
	}
	a, b := h.Segs(), h.Segs()
	a[1] = a[2]
	a = append(a, a[0])
	clear(a[:cap(a)])
	if b[0].Place() != 0 || b[1].Place() != 1 || b[2].Place() != 2 {
		t.Error("two answers of Segs share memory")
	}
	w.holds()
	w.leave(0, 1)
	if len(b) != 3 || b[1] == nil || b[1].Place() != 1 || b[2].Place() != 2 {
		t.Error("what Segs answered changes")
	}
	w.ends()
}

// P12.2: of each class, the blocks of a page come as the page gives them; behind the last one there is none, and the page is full.
func TestLocal(t *testing.T) {
	for c, k := range kinds() {
		w := newTwin(t, 1, 1, 1, 1)
		w.is("no segment", w.local(0, c), 0)
		w.grow(0)
		w.is("no page", w.local(0, c), 0)
		w.is("Fresh", w.of(0, c), 1024)
		for i := 1; i < k.blocks; i++ {
			w.is("Local", w.local(0, c), 1024+uint64(i)*k.size)
		}
		w.row("the last one is out", 0, c, 1024)
		w.is("all are out", w.local(0, c), 0)
		w.is("and again", w.local(0, c), 0)
		w.row("full", 0, c, 1024)
		for other := range 12 {
			if other != c {
				w.is("another class", w.local(0, other), 0)
			}
		}
		w.ends()
	}
}

// P12.2: a number that is no class is refused, -1 too, whatever there is.
func TestLocalOfNoClass(t *testing.T) {
	w := newTwin(t, 1, 1, 1, 1)
	for range 2 {
		for _, c := range noClasses() {
			if addr, e := w.heaps[0].h.Local(c); addr != 0 || e != api.ErrArg {
				t.Errorf("Local(%d): %d, error %d", c, addr, e)
			}
			w.holds()
		}
		w.grow(0)
		w.of(0, 0)
		w.single(0, 1)
	}
}

// P12.2: the first ready page is asked till it has none; then it is full, and stands behind the others that are.
func TestLocalOfManyPages(t *testing.T) {
	w := newTwin(t, 1, 1, 1, 1)
	w.grow(0)
	for i := range 5 {
		w.is("Fresh", w.of(0, 7), 1024+uint64(i)*1024)
	}
	w.row("all ready", 0, 7, 1024, 2048, 3072, 4096, 5120)
	for i := range 5 {
		from := 1024 + uint64(i)*1024
		for j := 1; j < 4; j++ {
			w.is("Local", w.local(0, 7), from+uint64(j)*256)
		}
	}
	w.row("only the last one wasn't asked again", 0, 7, 5120, 1024, 2048, 3072, 4096)
	w.is("all out", w.local(0, 7), 0)
	w.row("all full", 0, 7, 1024, 2048, 3072, 4096, 5120)
	w.is("all full", w.local(0, 7), 0)
	w.is("Fresh", w.of(0, 7), 6144)
	w.row("one more", 0, 7, 6144, 1024, 2048, 3072, 4096, 5120)
	w.ends()
}

// P12.2: ready pages of which none has a block are all full behind one call, in their order.
func TestLocalWhenAllAreFull(t *testing.T) {
	for n := 1; n <= 6; n++ {
		w := newTwin(t, 1, 1, 1, 1)
		w.grow(0)
		g := w.heaps[0].plots[0]
		var want []uint64
		for range n {
			want = append(want, w.fulls(0, 7)[0])
		}
		w.local(0, 7)
		w.leave(0, 0)
		w.adopt(0, g) // all are ready now, and none has a block
		w.row("ready", 0, 7, want...)
		w.is("none", w.local(0, 7), 0)
		w.row("full", 0, 7, want...)
		w.is("Fresh", w.of(0, 7), want[n-1]+1024)
		w.row("full, behind a ready one", 0, 7, append([]uint64{want[n-1] + 1024}, want...)...)
		w.ends()
	}
}

// P12.2: a page that is full isn't asked, till it is woken, though it got a block back itself.
func TestLocalOfFullPage(t *testing.T) {
	w := newTwin(t, 1, 1, 1, 1)
	w.grow(0)
	l := w.fulls(0, 7)
	w.is("all out", w.local(0, 7), 0)
	h := w.heaps[0].h
	q, e := h.Segs()[0].Find(1024)
	if e != api.OK || q.Free(l[2]) != api.OK {
		t.Fatal("the page itself takes it back")
	}
	if addr, e := h.Local(7); addr != 0 || e != api.ErrFull {
		t.Errorf("Local: %d, error %d", addr, e)
	}
	if e := h.Free(l[1]); e != api.OK {
		t.Fatalf("Free: error %d", e)
	}
	for _, want := range []uint64{l[1], l[2]} {
		if addr, e := h.Local(7); addr != want || e != api.OK {
			t.Errorf("Local: %d, error %d; wanted %d", addr, e, want)
		}
	}
}

// P12.2: what a page answers beside ErrFull is the answer: the page stays first, and the next one isn't asked.
func TestLocalOfListWrittenOver(t *testing.T) {
	w := newTwin(t, 1, 1, 1, 1)
	w.grow(0)
	w.is("Fresh", w.of(0, 3), 1024)
	w.of(0, 3)
	if e := w.m.Store(1088, 8, 1<<40); e != api.OK {
		t.Fatal(e)
	}
	h := w.heaps[0].h
	if addr, e := h.Local(3); addr != 1088 || e != api.OK {
		t.Fatalf("Local: %d, error %d", addr, e)
	}
	for range 3 {
		if addr, e := h.Local(3); addr != 0 || e != api.ErrRange {
			t.Errorf("Local: %d, error %d", addr, e)
		}
		if l := h.Pages(3); !slices.Equal(l, []uint64{1024, 2048}) {
			t.Errorf("Pages: %v", l)
		}
	}
}

// P12.2: of each class, a page in the lowest slices that are free, its first block, and the page stands behind the ready ones; the plan's other numbers don't matter.
func TestFresh(t *testing.T) {
	for c, k := range kinds() {
		w := newTwin(t, 1, 2, 2, 2)
		w.is("no segment", w.of(0, c), 0)
		w.grows(0, 2)
		for place := range 2 {
			for at := 1; at+k.slices <= 16; at += k.slices {
				plan := class.Plan{Class: c, Slices: []int{k.slices, 0, 16, -1, math.MaxInt}[at%5], Segs: at % 3, Usable: uint64(at) % 2 * k.size}
				w.is("Fresh", w.fresh(0, plan), uint64(place)*16384+uint64(at)*1024)
			}
		}
		w.holds()
		w.is("no room", w.of(0, c), 0)
		w.holds()
		if k.slices == 4 {
			w.is("what is left of the first segment", w.single(0, 3), 13312)
		}
		w.ends()
	}
}

// P12.2: one block alone, of each number of slices that a segment has, stands among the ready ones of -1, and none is Local's.
func TestFreshOfOneBlock(t *testing.T) {
	for n := 1; n <= 15; n++ {
		w := newTwin(t, 1, 2, 2, 2)
		w.is("no segment", w.single(0, n), 0)
		w.grows(0, 2)
		var want []uint64
		for place := range 2 {
			for at := 1; at+n <= 16; at += n {
				from := uint64(place)*16384 + uint64(at)*1024
				want = append(want, from)
				w.is("Fresh", w.fresh(0, class.Plan{Class: -1, Slices: n, Segs: at % 3, Usable: uint64(at)}), from)
			}
		}
		w.row("all", 0, -1, want...)
		w.is("no room", w.single(0, n), 0)
		for c := range 12 {
			w.is("Local", w.local(0, c), 0)
		}
		w.row("all", 0, -1, want...)
		w.ends()
	}
}

// P12.2: a plan that is none of a page is refused, whatever there is.
func TestFreshOfWrongPlans(t *testing.T) {
	w := newTwin(t, 1, 1, 1, 1)
	for range 2 {
		for _, n := range noSlices() {
			w.is("slices", w.single(0, n), 0)
			if addr, e := w.heaps[0].h.Fresh(class.Plan{Class: -1, Slices: n, Segs: 1, Usable: 16384}); addr != 0 || e != api.ErrArg {
				t.Errorf("Fresh of %d slices: %d, error %d", n, addr, e)
			}
		}
		for _, c := range noClasses()[1:] {
			for _, n := range []int{0, 1, 2, 15, 16} {
				if addr, e := w.heaps[0].h.Fresh(class.Plan{Class: c, Slices: n, Usable: 1024}); addr != 0 || e != api.ErrArg {
					t.Errorf("Fresh of class %d, %d slices: %d, error %d", c, n, addr, e)
				}
			}
		}
		w.holds()
		w.grow(0)
		w.of(0, 0)
	}
}

// P12.2: a segment that has no room for such a page, while another one has: the first of those that have is the one; a later page may well find room in an earlier segment.
func TestFreshOfTheFirstWithRoom(t *testing.T) {
	w := newTwin(t, 1, 4, 4, 4)
	w.grows(0, 4)
	w.is("fills the first", w.single(0, 13), 1024)
	w.is("first", w.of(0, 0), 14336)
	w.is("second: the first has one slice", w.of(0, 8), 17408)
	w.is("third: the second has 13", w.single(0, 14), 33792)
	w.is("second", w.of(0, 11), 19456)
	w.is("first", w.of(0, 0), 15360)
	w.is("second: the first has none", w.of(0, 0), 23552)
	w.is("fourth", w.single(0, 15), 50176)
	w.is("nowhere", w.single(0, 15), 0)
	w.is("second", w.single(0, 8), 24576)
	w.is("nowhere", w.of(0, 9), 0)
	w.is("third", w.of(0, 1), 48128)
	w.is("nowhere", w.of(0, 1), 0)
	w.is("nowhere", w.single(0, 1), 0)
	w.has("all", 0, 0, 1, 2, 3)
	// Slices that are free, but not in a row, are no room.
	w.free(0, 14336)
	w.free(0, 23552)
	w.is("nowhere", w.single(0, 2), 0)
	w.free(0, 15360)
	w.is("first", w.single(0, 2), 14336)
	w.ends()
}

// P12.2: segments are asked in the order in which the heap got them, not by their places.
func TestOrderOfSegments(t *testing.T) {
	w := newTwin(t, 2, 5, 5, 5)
	w.grows(0, 3)
	w.grow(1)
	w.grow(0)
	w.has("as they came", 0, 0, 1, 2, 4)
	w.has("the other one", 1, 3)
	zero := w.leave(0, 0)
	w.has("left", 0, 1, 2, 4)
	w.is("Fresh", w.of(0, 0), 17408)
	w.adopt(0, w.leave(1, 3))
	w.adopt(0, zero)
	w.has("adopted", 0, 1, 2, 4, 3, 0)
	w.is("in the first", w.single(0, 15), 33792)
	w.is("in the next", w.single(0, 15), 66560)
	w.is("in the next", w.single(0, 15), 50176)
	w.is("in the last", w.single(0, 15), 1024)
	w.is("none", w.single(0, 15), 0)
	w.free(0, 66560)
	w.has("one gone", 0, 1, 2, 3, 0)
	w.err("Grow", w.grow(0), api.OK)
	w.has("one more", 0, 1, 2, 3, 0, 4)
	w.ends()
}

// P12.2: a segment more is the last one, its owner's word the heap's number, written once; the arena's lowest place is its.
func TestGrow(t *testing.T) {
	w := newTwin(t, 3, 6, 6, 6)
	for i, x := range []int{0, 1, 0, 2, 1, 0} {
		w.err("Grow", w.grow(x), api.OK)
		if w.a.Given() != i+1 {
			t.Fatalf("%d given", w.a.Given())
		}
		w.holds()
	}
	w.has("first", 0, 0, 2, 5)
	w.has("second", 1, 1, 4)
	w.has("third", 2, 3)
	for i, o := range w.heaps {
		for _, s := range o.h.Segs() {
			if word, tag := s.Owner().Load(); word != uint64(i)*7+1 || tag != 1 {
				t.Errorf("the owner of %d: %d %d", s.Place(), word, tag)
			}
			if len(s.Pages()) != 0 || s.Left() != 15 {
				t.Errorf("segment %d has pages", s.Place())
			}
		}
	}
	w.is("none", w.local(0, 0), 0)
	for i := range w.heaps {
		if e := w.heaps[i].h.Grow(); e != api.ErrFull || w.a.Refused() != i+1 {
			t.Errorf("Grow beyond all: error %d, refused %d times", e, w.a.Refused())
		}
	}
}

// P12.2: the arena's error is the answer: at its limit, with no place free, and when it was told to refuse; the heap has no more then.
func TestGrowRefused(t *testing.T) {
	w := newTwin(t, 2, 4, 4, 2)
	w.refuse(true, false, true, true)
	for _, e := range []api.Errno{api.ErrFull, api.OK, api.ErrFull, api.ErrFull, api.OK, api.ErrFull, api.ErrFull} {
		w.err("Grow", w.grow(0), e)
		w.holds()
	}
	w.err("of another heap", w.grow(1), api.ErrFull)
	w.has("two", 0, 0, 1)
	w.free(0, w.single(0, 15))
	w.has("one gone", 0, 1)
	w.err("of another heap", w.grow(1), api.OK)
	w.has("the place is another one's", 1, 0)
	none := newTwin(t, 1, 2, 2, 0)
	none.err("limit 0", none.grow(0), api.ErrFull)
	none.has("limit 0", 0)
}

// P12.2: a place that the memory hasn't: ErrArg, the arena has it back, as often as that is asked; a lower one that comes back goes.
func TestGrowBeyondMemory(t *testing.T) {
	for _, x := range []struct{ bytes, segs int }{
		{1024, 0}, {15360, 0}, {16384, 1}, {17408, 1}, {31744, 1}, {32768, 2}, {33792, 2}, {48 * 1024, 3},
	} {
		m, e := mem.New(uint64(x.bytes))
		if e != api.OK {
			t.Fatal(e)
		}
		a := places(t, 6, 5)
		h, _ := heap.New(m, a, 5)
		for range x.segs {
			if e := h.Grow(); e != api.OK {
				t.Fatalf("of %d bytes: error %d", x.bytes, e)
			}
		}
		for range 8 {
			if e := h.Grow(); e != api.ErrArg || a.Given() != x.segs || len(a.Regions()) != x.segs || a.Refused() != 0 || len(h.Segs()) != x.segs {
				t.Fatalf("of %d bytes: error %d, %d given, %d segments", x.bytes, e, a.Given(), len(h.Segs()))
			}
		}
		if x.segs == 0 {
			continue
		}
		if addr, e := h.Fresh(class.Plan{Class: -1, Slices: 15}); addr != 1024 || e != api.OK || h.Free(addr) != api.OK {
			t.Fatalf("Fresh: %d, error %d", addr, e)
		}
		if e := h.Grow(); e != api.OK || h.Segs()[x.segs-1].Place() != 0 {
			t.Errorf("of %d bytes: error %d", x.bytes, e)
		}
	}
	w := newTwin(t, 2, 2, 5, 4)
	w.grows(0, 2)
	w.err("Grow", w.grow(1), api.ErrArg)
	w.err("Grow", w.grow(0), api.ErrArg)
	w.holds()
	w.ends()
}

// P12.3: of each class, blocks that come back are handed out again, once all others of their page are; the page is woken by the first of them, and stands last.
func TestFree(t *testing.T) {
	for c, k := range kinds() {
		w := newTwin(t, 1, 2, 2, 2)
		w.grows(0, 2)
		var l [][]uint64
		for range 3 {
			l = append(l, w.fulls(0, c))
		}
		a, b, d := l[0][0], l[1][0], l[2][0]
		w.is("all out", w.local(0, c), 0)
		w.row("all full", 0, c, a, b, d)
		w.err("Free", w.free(0, l[1][k.blocks-1]), api.OK)
		w.row("woken", 0, c, b, a, d)
		w.err("Free", w.free(0, l[0][1]), api.OK)
		w.row("woken, behind the other one", 0, c, b, a, d)
		w.err("Free", w.free(0, l[1][0]), api.OK)
		w.row("awake already", 0, c, b, a, d)
		w.is("Local", w.local(0, c), l[1][0])
		w.is("Local", w.local(0, c), l[1][k.blocks-1])
		w.is("Local", w.local(0, c), l[0][1])
		w.row("one is full again", 0, c, a, d, b)
		w.is("all out", w.local(0, c), 0)
		w.row("all full", 0, c, d, b, a)
		w.ends()
	}
}

// P12.3: addresses of no page of the heap's segments: ErrNone, and nothing; an address within a page is the page's to refuse.
func TestFreeOfWrongAddresses(t *testing.T) {
	w := newTwin(t, 2, 3, 3, 3)
	w.grow(0)
	w.grow(1)
	w.grow(0)
	w.of(0, 2)     // 1024: 21 blocks of 48, 16 bytes are left
	w.of(0, 10)    // 2048: 5 blocks of 768, 256 bytes are left
	w.single(0, 2) // 6144
	w.of(1, 0)     // 17408
	for _, addr := range append(beyond(), 0, 1, 48, 1023, 8192, 9216, 16383, 16384, 17408, 17424, 32767, 32768, 33791, 33792, 49151, 49152) {
		w.err("no page", w.free(0, addr), api.ErrNone)
		if n, e := w.heaps[0].h.Gather(addr); n != 0 || e != api.ErrNone {
			t.Errorf("Gather(%d): %d, error %d", addr, n, e)
		}
	}
	for _, addr := range []uint64{1025, 1032, 1071, 1073, 1071 + 48*20, 2049, 2815, 6145, 7168, 8191, 1024 + 48*4, 1024 + 48*20, 2048 + 768*4} {
		w.err("within a page", w.free(0, addr), api.ErrNone)
	}
	for _, addr := range []uint64{2032, 2047, 5888, 6143} {
		w.err("behind a page's blocks", w.free(0, addr), api.ErrRange)
	}
	w.err("another heap's", w.free(1, 1024), api.ErrNone)
	w.holds()
	for addr := uint64(0); addr < 49152; addr++ {
		if _, ok := w.live[addr]; !ok && (addr < 1024 || addr > 1024+3*48) && (addr < 2048 || addr > 2048+3*768) {
			w.free(0, addr)
		}
	}
	w.holds()
	w.ends()
}

// P12.3: a page of which no block is used refuses a block, though it is made: ErrNone, and the page stays.
func TestFreeOfWhatIsNotUsed(t *testing.T) {
	w := newTwin(t, 1, 1, 1, 1)
	w.grow(0)
	w.is("Fresh", w.of(0, 4), 1024)
	w.is("Fresh", w.of(0, 4), 2048)
	q, e := w.heaps[0].h.Segs()[0].Find(1024)
	if e != api.OK || q.Free(1024) != api.OK {
		t.Fatal("the page itself takes it back")
	}
	h := w.heaps[0].h
	for _, addr := range []uint64{1024, 1120, 1312} {
		if e := h.Free(addr); e != api.ErrNone || !slices.Equal(h.Pages(4), []uint64{1024, 2048}) {
			t.Errorf("Free(%d): error %d, pages %v", addr, e, h.Pages(4))
		}
	}
	if n, e := h.Gather(1024); n != 0 || e != api.OK || !slices.Equal(h.Pages(4), []uint64{2048}) {
		t.Errorf("Gather: %d, error %d, pages %v", n, e, h.Pages(4))
	}
	if e := h.Free(1024); e != api.ErrNone {
		t.Errorf("Free: error %d", e)
	}
}

// P12.3: behind the last block of a page the page goes, from a ready row and from a full one; behind the last page of a segment that goes, and the arena has it.
func TestTidied(t *testing.T) {
	for c, k := range kinds() {
		for _, asked := range []bool{false, true} {
			w := newTwin(t, 1, 2, 2, 2)
			w.grows(0, 2)
			l, m := w.fulls(0, c), w.fulls(0, c)
			both := []uint64{m[0], l[0]} // the first one was asked again ahead of the second one
			if asked {
				w.local(0, c)
				slices.Reverse(both)
			}
			w.row("two", 0, c, both...)
			for i, addr := range l {
				w.err("Free", w.free(0, addr), api.OK)
				w.holds()
				if gone := i == k.blocks-1; gone == slices.Contains(w.heaps[0].h.Pages(c), l[0]) {
					t.Fatalf("class %d, %d of %d given back: pages %v", c, i+1, k.blocks, w.heaps[0].h.Pages(c))
				}
			}
			w.row("one", 0, c, m[0])
			w.err("gone", w.free(0, l[0]), api.ErrNone)
			w.has("two", 0, 0, 1)
			w.is("again", w.of(0, c), l[0])
			w.row("two, the new one ahead of one that is full, or behind one that isn't yet", 0, c, both...)
			w.free(0, l[0])
			for _, addr := range m {
				w.err("Free", w.free(0, addr), api.OK)
			}
			w.has("the segment is gone", 0, 1)
			if w.a.Given() != 1 {
				t.Fatalf("%d given", w.a.Given())
			}
			w.err("gone", w.free(0, m[0]), api.ErrNone)
			w.is("in the other one", w.of(0, c), 17408)
			w.ends()
		}
	}
}

// P12.3: a page of one block ends by that one's coming back; what its slices were is free, and can be cut anew.
func TestTidiedOfOneBlock(t *testing.T) {
	for n := 1; n <= 15; n++ {
		w := newTwin(t, 1, 2, 2, 2)
		w.grow(0)
		w.is("Fresh", w.single(0, n), 1024)
		w.row("one", 0, -1, 1024)
		w.err("not its first byte", w.free(0, 1025), api.ErrNone)
		if n > 1 {
			w.err("its second slice", w.free(0, 2048), api.ErrNone)
		}
		w.err("Free", w.free(0, 1024), api.OK)
		w.has("gone", 0)
		w.err("again", w.free(0, 1024), api.ErrNone)
		w.grow(0)
		w.is("Fresh", w.single(0, 1), 1024)
		if n < 15 {
			w.is("Fresh", w.single(0, n), 2048)
			w.free(0, 1024)
			w.row("one", 0, -1, 2048)
			w.is("below", w.of(0, 0), 1024)
		}
		w.ends()
	}
}

// P12.3: a segment goes only with its last page, whichever that is; one that never had any stays.
func TestLastPageOfSegment(t *testing.T) {
	for _, order := range [][]int{{0, 1, 2}, {0, 2, 1}, {1, 0, 2}, {1, 2, 0}, {2, 0, 1}, {2, 1, 0}} {
		w := newTwin(t, 1, 3, 3, 3)
		w.grows(0, 2)
		l := []uint64{w.of(0, 0), w.single(0, 3), w.of(0, 11)}
		for i, j := range order {
			w.has("there", 0, 0, 1)
			w.free(0, l[j])
			if i < 2 {
				w.has("still there", 0, 0, 1)
			}
		}
		w.has("one of no pages stays", 0, 1)
		w.grow(0)
		w.has("the place comes again", 0, 1, 0)
		w.is("Fresh", w.of(0, 6), 17408)
		w.free(0, 17408)
		w.has("the last one but one", 0, 0)
		w.free(0, w.of(0, 6))
		w.has("none", 0)
		w.holds()
	}
}

// P12.3: Gather of any address in a page takes what others posted on it; a full page is woken, and stands last; its blocks come as they were posted, the last one first.
func TestGather(t *testing.T) {
	for c, k := range kinds() {
		w := newTwin(t, 1, 2, 2, 2)
		w.grows(0, 2)
		l, m := w.fulls(0, c), w.fulls(0, c)
		w.is("all out", w.local(0, c), 0)
		w.row("all full", 0, c, l[0], m[0])
		if w.gather(0, m[1]) != 0 {
			t.Error("Gather of none")
		}
		w.row("none is woken", 0, c, l[0], m[0])
		w.post(m[1])
		w.post(m[0])
		w.is("posted ones aren't there yet", w.local(0, c), 0)
		w.row("none is woken", 0, c, l[0], m[0])
		last := l[0] + uint64(k.slices)*1024 - 1
		w.post(l[2])
		for i, addr := range []uint64{last, m[0] + 5} {
			if n := w.gather(0, addr); n != i+1 {
				t.Errorf("Gather(%d): %d", addr, n)
			}
		}
		w.row("both are woken", 0, c, l[0], m[0])
		w.is("Local", w.local(0, c), l[2])
		w.is("Local", w.local(0, c), m[0])
		w.row("one is full again", 0, c, m[0], l[0])
		w.is("Local", w.local(0, c), m[1])
		w.post(m[2])
		if w.gather(0, m[3]) != 1 {
			t.Error("Gather")
		}
		w.row("it wasn't full yet", 0, c, m[0], l[0])
		w.ends()
	}
}

// P12.3: what was posted is used till it is gathered: so a page isn't tidied by Free, but by Gather, and its segment with it.
func TestGatherTidies(t *testing.T) {
	for c, k := range kinds() {
		for posted := 1; posted <= k.blocks; posted += 3 {
			w := newTwin(t, 1, 2, 2, 2)
			w.grows(0, 2)
			l := w.fulls(0, c)
			if posted%2 == 0 {
				w.local(0, c)
			}
			for _, addr := range l[:posted] {
				w.post(addr)
			}
			for _, addr := range l[posted:] {
				w.free(0, addr)
			}
			w.row("it stays", 0, c, 1024)
			if n := w.gather(0, l[k.blocks-1]); n != posted {
				t.Errorf("Gather: %d of %d", n, posted)
			}
			w.has("the segment is gone", 0, 1)
			w.row("the page is gone", 0, c)
			w.gather(0, 1024)
		}
	}
	w := newTwin(t, 1, 1, 1, 1)
	w.grow(0)
	w.single(0, 4)
	w.single(0, 11)
	w.post(1024)
	w.gather(0, 4*1024+1023)
	w.row("one block alone", 0, -1, 5120)
	w.post(5120)
	w.gather(0, 5120)
	w.has("none", 0)
	w.holds()
}

// P12.3: what is posted wrongly is the page's error; then nothing is given back, woken, or tidied.
func TestGatherOfWrongChain(t *testing.T) {
	w := newTwin(t, 1, 1, 1, 1)
	w.grow(0)
	l := w.fulls(0, 7)
	h := w.heaps[0].h
	if addr, e := h.Local(7); addr != 0 || e != api.ErrFull {
		t.Fatal(e)
	}
	if addr, e := h.Fresh(class.Plan{Class: 7}); addr != 2048 || e != api.OK {
		t.Fatal(e)
	}
	q, _ := h.Segs()[0].Find(1024)
	for _, head := range []uint64{1 << 40, l[2], l[1]} {
		_, tag := q.Cell().Load()
		if ok, e := q.Post(l[2], head, tag); !ok || e != api.OK {
			t.Fatal(e)
		}
		if head == l[1] { // a ring of two
			_, tag = q.Cell().Load()
			q.Post(l[1], l[2], tag)
		}
		if n, e := h.Gather(1024); n != 0 || e != api.ErrRange {
			t.Errorf("Gather, behind %d: %d, error %d", head, n, e)
		}
		if !slices.Equal(h.Pages(7), []uint64{2048, 1024}) || q.Used() != 4 {
			t.Errorf("pages %v, %d used", h.Pages(7), q.Used())
		}
	}
	if n, e := h.Gather(1024); n != 0 || e != api.OK {
		t.Errorf("Gather: %d, error %d", n, e)
	}
	// More than are used: the page answers ErrRange, and stays, though none is used.
	for _, addr := range l {
		if e := q.Free(addr); e != api.OK {
			t.Fatal(e)
		}
	}
	_, tag := q.Cell().Load()
	q.Post(l[0], 0, tag)
	if n, e := h.Gather(1024); n != 0 || e != api.ErrRange || !slices.Equal(h.Pages(7), []uint64{2048, 1024}) {
		t.Errorf("Gather: %d, error %d, pages %v", n, e, h.Pages(7))
	}
}

// P12.4: nil: ErrNil; one that it has, or another one of that place: ErrThere, and nothing; else it is the last one.
func TestAdopt(t *testing.T) {
	w := newTwin(t, 2, 4, 4, 4)
	w.grows(0, 2)
	w.of(0, 3)
	h := w.heaps[0].h
	w.err("nil", h.Adopt(nil), api.ErrNil)
	w.err("what it has", h.Adopt(h.Segs()[0]), api.ErrThere)
	w.err("what it has", h.Adopt(h.Segs()[1]), api.ErrThere)
	for place := range 2 {
		s, e := seg.New(w.m, place)
		if e != api.OK {
			t.Fatal(e)
		}
		if _, e := s.Page(3); e != api.OK {
			t.Fatal(e)
		}
		w.err("another one of that place", h.Adopt(s), api.ErrThere)
	}
	w.holds()
	w.err("nil", w.heaps[1].h.Adopt(nil), api.ErrNil)
	w.holds()
	one := w.leave(0, 0)
	w.err("of another heap", w.adopt(1, one), api.OK)
	w.has("first", 0, 1)
	w.has("second", 1, 0)
	w.row("its page", 1, 3, 1024)
	w.row("its page", 0, 3)
	if got := one.s.Owner(); cell.Asked(got) != 1 {
		t.Errorf("the owner was asked %d times", cell.Asked(got))
	}
	w.err("again", w.adopt(1, one), api.ErrThere)
	w.is("Local", w.local(1, 3), 1088)
	w.is("Local of who left it", w.local(0, 3), 0)
	w.ends()
}

// P12.4: pages come ready, rising, behind those of their class that are there, the full ones too; then they are asked in that order.
func TestAdoptOfPages(t *testing.T) {
	w := newTwin(t, 2, 4, 4, 4)
	w.grow(0)
	first := w.fulls(0, 7)  // 1024
	w.of(0, 0)              // 2048
	second := w.fulls(0, 7) // 3072
	w.single(0, 2)          // 4096
	w.of(0, 7)              // 6144
	third := w.of(0, 7)     // 7168
	w.single(0, 1)          // 8192
	w.row("two are full", 0, 7, 3072, 6144, 7168, 1024)
	w.locals(0, 7, 3)
	w.row("all but two are full", 0, 7, 6144, 7168, 1024, 3072)
	w.grow(1)
	w.fulls(1, 7) // 17408
	w.single(1, 1)
	w.is("none", w.local(1, 7), 0)
	w.of(1, 7) // 19456
	g := w.leave(0, 0)
	for _, c := range classes() {
		w.row("left", 0, c)
	}
	w.has("left", 0)
	w.post(first[3])
	w.post(second[1])
	w.post(second[0])
	w.adopt(1, g)
	w.has("adopted", 1, 1, 0)
	w.row("ready ones, rising, then the full one", 1, 7, 19456, 1024, 3072, 6144, 7168, 17408)
	w.row("of one slice", 1, 0, 2048)
	w.row("of one block", 1, -1, 18432, 4096, 8192)
	for range 3 {
		w.local(1, 7)
	}
	w.is("posted ones aren't there yet", w.local(1, 7), third+256)
	w.row("full ones in the order in which they were asked", 1, 7, 7168, 17408, 19456, 1024, 3072, 6144)
	if w.gather(1, 3072) != 2 || w.gather(1, 1024) != 1 {
		t.Error("Gather")
	}
	w.row("woken", 1, 7, 7168, 3072, 1024, 17408, 19456, 6144)
	w.locals(1, 7, 2)
	w.is("what was posted last", w.local(1, 7), second[0])
	w.is("what was posted first", w.local(1, 7), second[1])
	w.is("what was posted", w.local(1, 7), first[3])
	w.is("none", w.local(1, 7), 0)
	w.ends()
}

// P12.4: a place that it hasn't: ErrNone; else the segment, and its pages go, ready and full ones, of all classes; others stay as they stand.
func TestLeave(t *testing.T) {
	w := newTwin(t, 1, 3, 3, 3)
	w.grows(0, 3)
	var l []uint64
	for range 2 {
		for c := range 12 {
			l = append(l, w.of(0, c))
		}
	}
	w.single(0, 1)
	w.single(0, 3)
	w.locals(0, 7, 5) // one of them is full then
	w.holds()
	if len(l) != 24 || slices.Contains(l, 0) {
		t.Fatal(l)
	}
	for _, place := range []int{-1, 3, 4, 63, 64, 1 << 32, -1 << 32, math.MaxInt, math.MinInt} {
		if w.leave(0, place) != nil {
			t.Error("Leave")
		}
	}
	before := w.heaps[0].h.Pages()
	g := w.leave(0, 1)
	w.has("left", 0, 0, 2)
	rest := slices.DeleteFunc(slices.Clone(before), func(from uint64) bool { return from/16384 == 1 })
	if got := w.heaps[0].h.Pages(); !slices.Equal(got, rest) || len(rest) == len(before) {
		t.Errorf("Pages: %v; wanted %v", got, rest)
	}
	if len(g.s.Pages()) != len(before)-len(rest) || w.a.Given() != 3 {
		t.Errorf("the segment has %d pages, %d are given", len(g.s.Pages()), w.a.Given())
	}
	if w.leave(0, 1) != nil {
		t.Error("Leave again")
	}
	for addr := uint64(16384); addr < 32768; addr += 16 {
		w.err("Free in it", w.free(0, addr), api.ErrNone)
		w.gather(0, addr)
	}
	w.err("Adopt", w.adopt(0, g), api.OK)
	w.has("back", 0, 0, 2, 1)
	w.ends()
}

// P12.4: a segment that has no page may be left, and adopted; it stays, till a page of it ends.
func TestLeaveOfNoPages(t *testing.T) {
	w := newTwin(t, 2, 2, 2, 2)
	w.grow(0)
	g := w.leave(0, 0)
	w.has("none", 0)
	w.err("Adopt", w.adopt(1, g), api.OK)
	w.has("one", 1, 0)
	w.is("Fresh", w.of(1, 9), 1024)
	w.err("Free", w.free(1, 1024), api.OK)
	w.has("gone", 1)
	w.holds()
}

// P12.4: a segment that the arena never gave goes with its last page, as any other; the arena stays as it is.
func TestAdoptOfWhatWasNotGiven(t *testing.T) {
	w := newTwin(t, 1, 6, 4, 4)
	w.grow(0)
	for _, place := range []int{3, 5} {
		s, e := seg.New(w.m, place)
		if e != api.OK {
			t.Fatal(e)
		}
		w.err("Adopt", w.adopt(0, &plot{s: s, place: place}), api.OK)
	}
	w.has("all", 0, 0, 3, 5)
	l := []uint64{w.single(0, 15), w.single(0, 15), w.single(0, 15)}
	if !slices.Equal(l, []uint64{1024, 50176, 82944}) {
		t.Fatal(l)
	}
	w.free(0, l[1])
	w.has("one gone", 0, 0, 5)
	w.free(0, l[2])
	w.has("two gone", 0, 0)
	if w.a.Given() != 1 {
		t.Errorf("%d given", w.a.Given())
	}
	w.ends()
}

// P12.3 and P12.5: a page that another one's segment made, and nobody used, is tidied by Gather, though that gets none.
func TestGatherOfUnusedPage(t *testing.T) {
	w := newTwin(t, 1, 2, 2, 2)
	s, _ := seg.New(w.m, 0)
	if _, e := w.a.Reserve(1); e != api.OK {
		t.Fatal(e)
	}
	for _, c := range []int{5, 5, 0} {
		if _, e := s.Page(c); e != api.OK {
			t.Fatal(e)
		}
	}
	h := w.heaps[0].h
	if e := h.Adopt(s); e != api.OK || !slices.Equal(h.Pages(), []uint64{3072, 1024, 2048}) {
		t.Fatalf("Adopt: error %d, pages %v", e, h.Pages())
	}
	for i, from := range []uint64{1024, 3072, 2048} {
		if n, e := h.Gather(from); n != 0 || e != api.OK || len(h.Pages()) != 2-i {
			t.Errorf("Gather(%d): %d, error %d, pages %v", from, n, e, h.Pages())
		}
	}
	if len(h.Segs()) != 0 || w.a.Given() != 0 {
		t.Errorf("%d segments, %d given", len(h.Segs()), w.a.Given())
	}
}

// P12.5: a page that its segment dropped behind the heap's back has no block any more; what stands there next is asked as any other.
func TestDroppedBehindItsBack(t *testing.T) {
	drop := func(w *twin, addr uint64) *heap.Heap {
		h := w.heaps[0].h
		s := h.Segs()[0]
		q, e := s.Find(addr)
		if e != api.OK || q.Free(addr) != api.OK || s.Drop(q.At) != api.OK {
			t.Fatal("the segment keeps its page")
		}
		return h
	}
	set := func() *twin {
		w := newTwin(t, 1, 2, 2, 2)
		w.grows(0, 2)
		w.of(0, 7)
		w.of(0, 7)
		return w
	}
	h := drop(set(), 1024)
	if addr, e := h.Local(7); addr != 2304 || e != api.OK || !slices.Equal(h.Pages(7), []uint64{2048}) {
		t.Errorf("Local: %d, error %d, pages %v", addr, e, h.Pages(7))
	}
	if e := h.Free(1024); e != api.ErrNone {
		t.Errorf("Free: error %d", e)
	}
	h = drop(set(), 1024)
	if addr, e := h.Fresh(class.Plan{Class: 7}); addr != 1024 || e != api.OK || !slices.Equal(h.Pages(7), []uint64{2048, 1024}) {
		t.Errorf("Fresh: %d, error %d, pages %v", addr, e, h.Pages(7))
	}
	h = drop(set(), 1024)
	if addr, e := h.Fresh(class.Plan{Class: 0}); addr != 1024 || e != api.OK {
		t.Errorf("Fresh: %d, error %d", addr, e)
	}
	if addr, e := h.Local(7); addr != 2304 || e != api.OK || !slices.Equal(h.Pages(), []uint64{1024, 2048}) {
		t.Errorf("Local: %d, error %d, pages %v", addr, e, h.Pages())
	}
	w := set()
	h = drop(w, 1024)
	if e := h.Free(2048); e != api.OK || len(h.Pages()) != 0 || len(h.Segs()) != 1 || w.a.Given() != 1 {
		t.Errorf("Free: error %d, pages %v, %d segments", e, h.Pages(), len(h.Segs()))
	}
	h = drop(set(), 1024)
	if s, e := h.Leave(0); e != api.OK || len(h.Pages()) != 0 || len(s.Pages()) != 1 {
		t.Errorf("Leave: error %d, pages %v", e, h.Pages())
	}
}

// A page that its segment made behind the heap's back is in no queue; a block of it that comes back is taken, and the page tidied, all the same.
func TestMadeBehindItsBack(t *testing.T) {
	w := newTwin(t, 1, 1, 1, 1)
	w.grow(0)
	h := w.heaps[0].h
	s := h.Segs()[0]
	q, _ := s.Page(7)
	addr, e := q.Alloc()
	if e != api.OK || addr != 1024 {
		t.Fatal(e)
	}
	if x, e := h.Local(7); x != 0 || e != api.ErrFull || len(h.Pages()) != 0 {
		t.Errorf("Local: %d, error %d", x, e)
	}
	if e := h.Free(addr); e != api.OK || len(h.Segs()) != 0 || w.a.Given() != 0 {
		t.Errorf("Free: error %d, %d given", e, w.a.Given())
	}
}

// Whoever has a page that was handed out may write over its fields: the heap doesn't go by those.
func TestPageWrittenOver(t *testing.T) {
	w := newTwin(t, 1, 1, 1, 1)
	w.grow(0)
	for range 3 {
		for _, addr := range []uint64{w.of(0, 7), w.of(0, 8), w.single(0, 2)} {
			q, _ := w.heaps[0].h.Segs()[0].Find(addr)
			q.Class, q.At, q.Slices, q.Page = 99, 15, 99, nil
		}
		w.locals(0, 7, 1)
	}
	w.ends()
}

// What a call asks of shared words: Grow its segment's owner, once; Gather its page's cell, once; the others nothing.
func TestAsked(t *testing.T) {
	w := newTwin(t, 2, 2, 2, 2)
	w.grow(0)
	h := w.heaps[0].h
	addr := w.of(0, 7)
	s := h.Segs()[0]
	q, _ := s.Find(addr)
	asked := func(what string, owner, page int) {
		t.Helper()
		if cell.Asked(s.Owner()) != owner || cell.Asked(q.Cell()) != page {
			t.Errorf("%s: the owner was asked %d times, the page's cell %d times; wanted %d, %d", what, cell.Asked(s.Owner()), cell.Asked(q.Cell()), owner, page)
		}
	}
	asked("Grow, Fresh", 1, 0)
	l := w.locals(0, 7, 3)
	w.local(0, 7)
	asked("Local", 1, 0)
	w.free(0, l[0])
	w.free(0, l[1])
	asked("Free", 1, 0)
	w.gather(0, addr)
	asked("Gather", 1, 1)
	w.post(l[2])
	asked("a post", 1, 3)
	w.gather(0, addr)
	asked("Gather", 1, 4)
	w.adopt(1, w.leave(0, 0))
	h.Adopt(nil)
	w.heaps[1].h.Adopt(s)
	h.Pages()
	h.Segs()
	asked("Leave, Adopt", 1, 4)
	w.free(1, addr)
	asked("the last one's coming back", 1, 4)
}

// P12.2, and DOC.md's rules: heaps that share nothing are independent.
func TestApart(t *testing.T) {
	v, w := newTwin(t, 1, 2, 2, 2), newTwin(t, 1, 2, 2, 2)
	v.grow(0)
	v.of(0, 7)
	w.holds()
	w.is("no segment", w.local(0, 7), 0)
	w.grow(0)
	w.is("Fresh", w.of(0, 7), 1024)
	v.free(0, 1024)
	v.holds()
	w.holds()
	w.locals(0, 7, 3)
	w.ends()
}

// deed does one thing of those that a heap may do, by a number, and what is live of those that it may give back.
func (w *twin) deed(i, kind, x int) {
	w.t.Helper()
	o := w.heaps[i]
	var mine, posted []uint64
	for _, addr := range w.handedOut() {
		if _, p := o.find(addr); p != nil {
			mine = append(mine, addr)
		} else {
			posted = append(posted, addr)
		}
	}
	pick := func(l []uint64) uint64 { return l[x%len(l)] }
	switch {
	case kind == 0:
		w.grow(i)
	case kind == 1:
		w.local(i, x%12)
	case kind == 2:
		w.of(i, x%12)
	case kind == 3:
		w.single(i, x%15+1)
	case kind == 4 && len(mine) > 0:
		w.free(i, pick(mine))
	case kind == 5 && len(posted) > 0:
		w.post(pick(posted))
	case kind == 5 && len(mine) > 0:
		w.post(pick(mine))
	case kind == 6:
		if l := o.h.Pages(); len(l) > 0 {
			w.gather(i, pick(l)+uint64(x%1024))
		}
	case kind == 7 && len(o.plots) > 0:
		w.leave(i, o.plots[x%len(o.plots)].place)
	case kind == 8 && len(w.spare) > 0:
		w.adopt(i, w.spare[x%len(w.spare)])
	case kind == 9:
		w.refuse(x%3 == 0)
	case kind == 10:
		addr := uint64(x % (8 * 16384) / 8 * 8)
		if _, p := o.find(addr); p == nil || p.back(addr) != api.OK {
			w.free(i, addr)
		}
	}
}

// P12.1 to P12.5: all short rows of calls of two heaps, of pages of which one block fills a good part, so that rooms, limits and rows end soon; and then all comes back.
func TestShortRows(t *testing.T) {
	const long = 5
	deeds := []func(w *twin){
		func(w *twin) { w.deed(0, 0, 0) },
		func(w *twin) { w.deed(0, 1, 11) },
		func(w *twin) { w.deed(0, 2, 11) },
		func(w *twin) { w.deed(0, 3, 10) },
		func(w *twin) { w.deed(0, 4, 0) },
		func(w *twin) { w.deed(0, 5, 0) },
		func(w *twin) { w.deed(0, 6, 0) },
		func(w *twin) { w.deed(0, 7, 0); w.deed(1, 8, 0) },
		func(w *twin) { w.deed(1, 7, 0); w.deed(0, 8, 0) },
	}
	n := 1
	for range long {
		n *= len(deeds)
	}
	for row := range n {
		w := newTwin(t, 2, 2, 2, 2)
		w.grow(0)
		w.of(0, 11)
		w.locals(0, 11, 2)
		for range long {
			deeds[row%len(deeds)](w)
			row /= len(deeds)
		}
		w.holds()
		w.ends()
	}
}

// P12.1 to P12.5: long rows of calls of three heaps, of all that they may do, by turns such that ask for blocks, and such that give them back; and then all comes back.
func TestLongRows(t *testing.T) {
	ask := []int{0, 0, 1, 1, 1, 1, 1, 1, 1, 1, 1, 1, 2, 2, 2, 2, 3, 4, 5, 6, 7, 8, 8, 9, 10}
	back := []int{0, 1, 1, 1, 2, 3, 4, 4, 4, 4, 4, 5, 5, 5, 5, 6, 6, 6, 6, 7, 8, 8, 9, 10}
	most, pages, full := 0, 0, 0
	for seed := range uint64(60) {
		r := rand.New(rand.NewPCG(seed, 12))
		segs := r.IntN(6) + 1
		n := segs + r.IntN(2)
		w := newTwin(t, 3, segs, n, n-r.IntN(2))
		few := r.IntN(12) + 1 // so that pages of a class come to be full, and many
		for i := range 2400 {
			turn := ask
			if i/400%2 == 1 {
				turn = back
			}
			x, kind := r.IntN(1<<30), turn[r.IntN(len(turn))]
			if kind == 1 || kind == 2 {
				x = 11 - x%few
			}
			w.deed(r.IntN(3), kind, x)
			if x%4 == 0 {
				w.holds()
			}
			most = max(most, len(w.live))
			for _, o := range w.heaps {
				pages, full = max(pages, len(o.h.Pages())), max(full, len(o.full[11-x%12]))
			}
		}
		w.ends()
	}
	if most < 100 || pages < 30 || full < 6 {
		t.Errorf("the rows hand out %d blocks at most, of %d pages, %d of which are full: too few to tell much", most, pages, full)
	}
}
