package seg_test

import (
	"bytes"
	"math"
	"math/rand/v2"
	"slices"
	"strings"
	"testing"

	"allotment/api"
	"allotment/cell"
	"allotment/geo"
	"allotment/mem"
	"allotment/page"
	"allotment/seg"
)

const (
	greatest = math.MaxInt
	least    = math.MinInt
	highest  = ^uint64(0)
)

// kind is what chapter 5 says of a class: a block's bytes, its pages' slices, and how many blocks these have.
type kind struct {
	size   uint64
	slices int
	blocks int
}

func kinds() []kind {
	return []kind{
		{16, 1, 64}, {32, 1, 32}, {48, 1, 21}, {64, 1, 16}, {96, 1, 10}, {128, 1, 8}, {192, 1, 5}, {256, 1, 4},
		{384, 2, 5}, {512, 2, 4}, {768, 4, 5}, {1024, 4, 4},
	}
}

// memory is one in which each byte differs from those near it.
func memory(t *testing.T, n uint64) *mem.Mem {
	t.Helper()
	m, e := mem.New(n)
	if e != api.OK {
		t.Fatal(e)
	}
	b := make([]byte, n)
	for i := range b {
		b[i] = byte(i*7 + i>>8 + 1)
	}
	if e := m.Put(0, b...); e != api.OK {
		t.Fatal(e)
	}
	return m
}

// told is all bytes of a memory.
func told(t *testing.T, m *mem.Mem) []byte {
	t.Helper()
	b, e := m.Get(0, m.Size())
	if e != api.OK {
		t.Fatal(e)
	}
	return b
}

// look is what a cell holds, and how often it was asked, told by a copy, so that it isn't asked by that.
func look(c *cell.Cell) (word, tag uint64, asked int) {
	d := *c
	word, tag = d.Load()
	return word, tag, cell.Asked(c)
}

// had is what a page is to be.
type had struct {
	o     *seg.Owned
	class int
	run   geo.Run
}

// twin is a segment, and beside it what it is to be: a text of a sign a slice (# its own one, a point a free one, else the sign of the page that begins at the sign's place: b at 1, c at 2, and on), and the page of each sign.
type twin struct {
	t    *testing.T
	s    *seg.Segment
	at   int
	text string
	has  map[byte]had
}

func newTwin(t *testing.T, m *mem.Mem, at int) *twin {
	t.Helper()
	s, e := seg.New(m, at)
	if s == nil || e != api.OK {
		t.Fatalf("New at %d of %d bytes: %v, error %d", at, m.Size(), s != nil, e)
	}
	w := &twin{t: t, s: s, at: at, text: "#" + free(15), has: map[byte]had{}}
	w.holds("New")
	return w
}

func sign(at int) byte            { return byte('a' + at) }
func free(n int) string           { return strings.Repeat(".", n) }
func row(at, n int) string        { return strings.Repeat(string(sign(at)), n) }
func (w *twin) from(i int) uint64 { return uint64(w.at)*16384 + uint64(i)*1024 }

// begins says whether a page's first slice is the i-th.
func (w *twin) begins(i int) bool { return i >= 0 && i < 16 && w.text[i] == sign(i) }

// is asks a page of all that it tells.
func (w *twin) is(what string, o *seg.Owned, at int) {
	w.t.Helper()
	h, n := w.has[sign(at)], strings.Count(w.text, row(at, 1))
	if o != h.o {
		w.t.Fatalf("%s: %s: the page at %d is another one", what, w.text, at)
	}
	if o.Class != h.class || o.At != at || o.Slices != n || o.Run() != h.run {
		w.t.Fatalf("%s: %s: class %d, at %d, %d slices, run %+v; wanted %d, %d, %d, %+v", what, w.text, o.Class, o.At, o.Slices, o.Run(), h.class, at, n, h.run)
	}
}

// finds holds a Find against the text.
func (w *twin) finds(addr uint64) {
	w.t.Helper()
	o, e := w.s.Find(addr)
	i := addr/1024 - uint64(w.at)*16
	f := api.OK
	if i >= 16 {
		f = api.ErrRange
	} else if w.text[i] == '#' || w.text[i] == '.' {
		f = api.ErrNone
	}
	if e != f || (o != nil) != (f == api.OK) {
		w.t.Fatalf("%s: Find(%d): %v, error %d; wanted error %d", w.text, addr, o != nil, e, f)
	}
	if o != nil {
		w.is("Find", o, int(w.text[i]-'a'))
	}
}

// holds asks a segment of all that it tells.
func (w *twin) holds(what string) {
	w.t.Helper()
	if place, left := w.s.Place(), w.s.Left(); place != w.at || left != strings.Count(w.text, ".") {
		w.t.Fatalf("%s: %s: Place %d, Left %d", what, w.text, place, left)
	}
	if word, tag, asked := look(w.s.Owner()); word != 0 || tag != 0 || asked != 0 {
		w.t.Fatalf("%s: the owner: %d %d, asked %d times", what, word, tag, asked)
	}
	l := w.s.Pages()
	if len(l) != len(w.has) {
		w.t.Fatalf("%s: %s: %d pages; wanted %d", what, w.text, len(l), len(w.has))
	}
	next := 0
	for i := range 16 {
		if w.begins(i) {
			w.is(what, l[next], i)
			next++
		}
		w.finds(w.from(i))
		w.finds(w.from(i) + 1023)
	}
	w.finds(w.from(0) - 1)
	w.finds(w.from(16))
}

// cuts holds a page that was asked for, of n slices, against the text, and answers it.
func (w *twin) cuts(what string, o *seg.Owned, e api.Errno, class, n int, size uint64, blocks int) *seg.Owned {
	w.t.Helper()
	at := strings.Index(w.text, free(n))
	if at < 0 {
		if o != nil || e != api.ErrFull {
			w.t.Fatalf("%s: %s: %v, error %d; wanted ErrFull", what, w.text, o != nil, e)
		}
		w.holds(what)
		return nil
	}
	if o == nil || e != api.OK {
		w.t.Fatalf("%s: %s: %v, error %d; wanted one", what, w.text, o != nil, e)
	}
	for _, h := range w.has {
		if h.o == o || h.o.Page == o.Page || h.o.Cell() == o.Cell() {
			w.t.Fatalf("%s: %s: the page is there already", what, w.text)
		}
	}
	w.text = w.text[:at] + row(at, n) + w.text[at+n:]
	w.has[sign(at)] = had{o, class, geo.Run{From: w.from(at), Size: size, N: blocks}}
	if word, tag, asked := look(o.Cell()); o.Made() != 0 || o.Used() != 0 || word != 0 || tag != 0 || asked != 0 {
		w.t.Fatalf("%s: of a new page: %d made, %d used, the cell %d %d, asked %d times", what, o.Made(), o.Used(), word, tag, asked)
	}
	w.holds(what)
	return o
}

// pages holds a Page against the text, and answers the page, nil of none.
func (w *twin) pages(class int) *seg.Owned {
	w.t.Helper()
	k := kinds()[class]
	o, e := w.s.Page(class)
	return w.cuts("Page", o, e, class, k.slices, k.size, k.blocks)
}

// bigs holds a Big against the text, and answers the page, nil of none.
func (w *twin) bigs(n int) *seg.Owned {
	w.t.Helper()
	o, e := w.s.Big(n)
	return w.cuts("Big", o, e, -1, n, uint64(n)*1024, 1)
}

// bigsAll makes pages of so many slices each, all of which find room.
func (w *twin) bigsAll(n ...int) {
	w.t.Helper()
	for _, n := range n {
		if w.bigs(n) == nil {
			w.t.Fatalf("%s: no room for %d slices", w.text, n)
		}
	}
}

// drops holds a Drop against the text, and answers its error.
func (w *twin) drops(at int) api.Errno {
	w.t.Helper()
	f := api.ErrNone
	if w.begins(at) {
		f = api.OK
		if w.has[sign(at)].o.Used() > 0 {
			f = api.ErrThere
		}
	}
	if e := w.s.Drop(at); e != f {
		w.t.Fatalf("%s: Drop(%d): error %d; wanted %d", w.text, at, e, f)
	}
	if f == api.OK {
		w.text = strings.ReplaceAll(w.text, row(at, 1), ".")
		delete(w.has, sign(at))
	}
	w.holds("Drop")
	return f
}

// dropsAll ends the pages that begin at some slices, all of which are there.
func (w *twin) dropsAll(at ...int) {
	w.t.Helper()
	for _, i := range at {
		if e := w.drops(i); e != api.OK {
			w.t.Fatalf("%s: Drop(%d): error %d", w.text, i, e)
		}
	}
}

// allocs hands out some blocks of a page.
func allocs(t *testing.T, o *seg.Owned, n int) []uint64 {
	t.Helper()
	var l []uint64
	for range n {
		addr, e := o.Alloc()
		if e != api.OK {
			t.Fatalf("Alloc: error %d", e)
		}
		l = append(l, addr)
	}
	return l
}

// The chapter's example.
func TestExamples(t *testing.T) {
	s, e := seg.New(memory(t, 65536), 1)
	if e != api.OK {
		t.Fatal(e)
	}
	o, e := s.Page(0)
	if e != api.OK || o.At != 1 || o.Slices != 1 || o.Class != 0 || o.Run() != (geo.Run{From: 17408, Size: 16, N: 64}) {
		t.Errorf("Page(0): %+v, error %d", o, e)
	}
	o, e = s.Big(2)
	if e != api.OK || o.At != 2 || o.Slices != 2 || o.Class != -1 || o.Run() != (geo.Run{From: 18432, Size: 2048, N: 1}) {
		t.Errorf("Big(2): %+v, error %d", o, e)
	}
	if s.Left() != 12 || s.Place() != 1 {
		t.Errorf("Left %d, Place %d", s.Left(), s.Place())
	}
}

// P10.1: all places of memories that have some segments, and some slices beyond; those that aren't within them: nil and ErrArg.
func TestNew(t *testing.T) {
	for _, n := range []int{1, 2, 14, 15, 16, 17, 31, 32, 33, 47, 48, 1007, 1008, 1009, 1022, 1023, 1024} {
		m := memory(t, uint64(n)*1024)
		b := told(t, m)
		for at := range n / 16 {
			newTwin(t, m, at)
		}
		for _, at := range places(n / 16) {
			if s, e := seg.New(m, at); s != nil || e != api.ErrArg {
				t.Errorf("New at %d of %d slices: %v, error %d", at, n, s != nil, e)
			}
		}
		if !bytes.Equal(told(t, m), b) {
			t.Errorf("New of %d slices wrote", n)
		}
	}
}

// places are those of no segment of a memory of n: of some of the great ones the address, wrapped round, would be one.
func places(n int) []int {
	return []int{
		n, n + 1, n + 15, n + 64, 64, 65, 1024, 16384, 1 << 20, 1 << 31, 1 << 32, 1<<32 + 1, 1<<49 - 1, 1 << 49, 1<<49 + 1,
		1 << 50, 1<<50 + 1, 1<<51 + 2, 1 << 62, 1<<62 + 1, greatest - 1, greatest,
		-1, -2, -16, -64, -1 << 50, 1 - 1<<50, -1 << 62, least, least + 1,
	}
}

// P10.1: the lowest and the highest place of the greatest memory; their pages are within it, the last one up to its last byte.
func TestLowestAndHighestPlace(t *testing.T) {
	m := memory(t, api.MaxSize)
	for _, at := range []int{0, 1, 62, 63} {
		w := newTwin(t, m, at)
		o := w.bigs(15)
		if o.Run().From != uint64(at)*16384+1024 || o.Run().End() != uint64(at+1)*16384 {
			t.Errorf("at %d: %+v", at, o.Run())
		}
		if l := allocs(t, o, 1); l[0] != w.from(1) {
			t.Errorf("at %d: Alloc %d", at, l[0])
		}
		if e := m.Fill(w.from(1), 15360, 0xee); e != api.OK {
			t.Errorf("at %d: Fill: error %d", at, e)
		}
		if e := o.Free(w.from(1)); e != api.OK {
			t.Errorf("at %d: Free: error %d", at, e)
		}
		w.dropsAll(1)
		for range 15 {
			w.pages(0)
		}
		w.pages(0)
		o, e := w.s.Find(w.from(15))
		if e != api.OK {
			t.Fatalf("at %d: Find: error %d", at, e)
		}
		if l := allocs(t, o, 64); l[63] != w.from(16)-16 {
			t.Errorf("at %d: the last block: %d", at, l[63])
		}
	}
}

// P10.1: ErrNil of a nil Mem goes ahead of ErrArg; a Mem that mem.New didn't make has no bytes for one.
func TestNewOfNoMemory(t *testing.T) {
	for _, at := range append(places(0), 0, 1, 63) {
		if s, e := seg.New(nil, at); s != nil || e != api.ErrNil {
			t.Errorf("New at %d: %v, error %d", at, s != nil, e)
		}
		if s, e := seg.New(&mem.Mem{}, at); s != nil || e != api.ErrArg {
			t.Errorf("New at %d: %v, error %d", at, s != nil, e)
		}
	}
}

// P10.1 to P10.3: of a nil Segment: ErrNil, beside it zero, ahead of all else; the others zero.
func TestNil(t *testing.T) {
	var s *seg.Segment
	if s.Place() != 0 || s.Owner() != nil || s.Left() != 0 || len(s.Pages()) != 0 {
		t.Error("Place, Owner, Left, Pages", s.Place(), s.Owner(), s.Left(), s.Pages())
	}
	for _, x := range []int{0, 1, 2, 11, 12, 15, 16, -1, greatest, least} {
		if o, e := s.Page(x); o != nil || e != api.ErrNil {
			t.Errorf("Page(%d): %v, error %d", x, o != nil, e)
		}
		if o, e := s.Big(x); o != nil || e != api.ErrNil {
			t.Errorf("Big(%d): %v, error %d", x, o != nil, e)
		}
		if e := s.Drop(x); e != api.ErrNil {
			t.Errorf("Drop(%d): error %d", x, e)
		}
		if o, e := s.Find(uint64(x)); o != nil || e != api.ErrNil {
			t.Errorf("Find(%d): %v, error %d", x, o != nil, e)
		}
	}
}

// A Segment that New didn't make has no room, and no call of it panics.
func TestZeroValue(t *testing.T) {
	s := &seg.Segment{}
	if s.Place() != 0 || s.Owner() == nil || s.Left() != 0 || len(s.Pages()) != 0 {
		t.Error("Place, Owner, Left, Pages", s.Place(), s.Owner(), s.Left(), s.Pages())
	}
	for x := -1; x <= 16; x++ {
		if o, e := s.Page(x); o != nil || e == api.OK {
			t.Errorf("Page(%d): %v, error %d", x, o != nil, e)
		}
		if o, e := s.Big(x); o != nil || e == api.OK {
			t.Errorf("Big(%d): %v, error %d", x, o != nil, e)
		}
		if e := s.Drop(x); e != api.ErrNone {
			t.Errorf("Drop(%d): error %d", x, e)
		}
		if o, e := s.Find(uint64(x) * 1024); o != nil || e == api.OK {
			t.Errorf("Find(%d): %v, error %d", x, o != nil, e)
		}
	}
}

// P10.1: the owner is one cell, always the same; what it holds has no part in what the segment does.
func TestOwner(t *testing.T) {
	m := memory(t, 65536)
	w, other := newTwin(t, m, 1), newTwin(t, m, 2)
	c := w.s.Owner()
	if c != w.s.Owner() || c == other.s.Owner() {
		t.Fatal("not one owner a segment")
	}
	c.Store(3)
	other.holds("a Store of another one's owner")
	for _, call := range []func(){
		func() { w.s.Page(0) }, func() { w.s.Big(3) }, func() { w.s.Find(17408) }, func() { w.s.Pages() }, func() { w.s.Left() },
		func() { w.s.Place() }, func() { w.s.Drop(1) }, func() { w.s.Drop(5) }, func() { w.s.Page(99) }, func() { w.s.Big(99) }, func() { w.s.Owner() },
	} {
		call()
		if word, tag, asked := look(w.s.Owner()); word != 3 || tag != 1 || asked != 1 {
			t.Fatalf("the owner: %d %d, asked %d times", word, tag, asked)
		}
	}
	if l := w.s.Pages(); len(l) != 1 || l[0].At != 2 {
		t.Errorf("%d pages", len(l))
	}
}

// P10.2: a page of each class, at each slice where it finds room: its blocks are the class's, all within its slices.
func TestPageOfEachClass(t *testing.T) {
	for c, k := range kinds() {
		for at := 1; at+k.slices <= 16; at++ {
			w := newTwin(t, memory(t, 32768), 1)
			if at > 1 {
				w.bigsAll(at - 1)
			}
			o := w.pages(c)
			if o == nil || o.At != at {
				t.Fatalf("class %d at %d: %s", c, at, w.text)
			}
			for i, addr := range allocs(t, o, k.blocks) {
				if addr != w.from(at)+uint64(i)*k.size {
					t.Fatalf("class %d: the block %d: %d", c, i, addr)
				}
				w.finds(addr)
				w.finds(addr + k.size - 1)
			}
			if addr, e := o.Alloc(); addr != 0 || e != api.ErrFull {
				t.Errorf("class %d: one more: %d, error %d", c, addr, e)
			}
			if end := o.Run().End(); end > w.from(at+k.slices) || end+k.size <= w.from(at+k.slices) {
				t.Errorf("class %d: the end %d of a page up to %d", c, end, w.from(at+k.slices))
			}
		}
	}
}

// P10.2: as many pages of each class as find room, then ErrFull, again and again; smaller ones find room still.
func TestFullOfEachClass(t *testing.T) {
	for c, k := range kinds() {
		w := newTwin(t, memory(t, 32768), 1)
		for i := range 15 / k.slices {
			if o := w.pages(c); o == nil || o.At != 1+i*k.slices {
				t.Fatalf("class %d, page %d: %s", c, i, w.text)
			}
		}
		for range 3 {
			if w.pages(c) != nil {
				t.Fatalf("class %d: %s", c, w.text)
			}
		}
		for range 15 % k.slices {
			w.pages(7)
		}
		for other := range kinds() {
			if w.pages(other) != nil {
				t.Fatalf("class %d of a full segment: %s", other, w.text)
			}
		}
		if w.s.Left() != 0 {
			t.Errorf("class %d: Left %d", c, w.s.Left())
		}
	}
}

// P10.2: one block of 1 to 15 slices has all their bytes; what is left is too short for more than that.
func TestBigOfEachLength(t *testing.T) {
	for n := 1; n <= 15; n++ {
		w := newTwin(t, memory(t, 32768), 1)
		o := w.bigs(n)
		if o == nil || o.At != 1 || o.Slices != n || o.Class != -1 {
			t.Fatalf("Big(%d): %s", n, w.text)
		}
		if l := allocs(t, o, 1); l[0] != 17408 {
			t.Errorf("Big(%d): Alloc %d", n, l[0])
		}
		if addr, e := o.Alloc(); addr != 0 || e != api.ErrFull || o.Made() != 1 {
			t.Errorf("Big(%d): one more: %d, error %d, %d made", n, addr, e, o.Made())
		}
		for more := 15 - n + 1; more <= 15; more++ {
			if w.bigs(more) != nil {
				t.Errorf("Big(%d) behind one of %d", more, n)
			}
		}
		if n < 15 && w.bigs(15-n) == nil {
			t.Errorf("Big(%d) behind one of %d: none", 15-n, n)
		}
	}
}

// P10.2: classes and lengths that may not be: ErrArg, in a segment that is full, too, and nothing changes.
func TestPagesThatMayNotBe(t *testing.T) {
	w := newTwin(t, memory(t, 32768), 1)
	for range 2 {
		for _, c := range []int{12, 13, 16, 64, 1 << 32, 1<<32 + 1, -1, -2, -12, greatest, least} {
			if o, e := w.s.Page(c); o != nil || e != api.ErrArg {
				t.Errorf("Page(%d): %v, error %d", c, o != nil, e)
			}
		}
		for _, n := range []int{0, 16, 17, 32, 64, 256, 1 << 32, 1<<32 + 1, 1<<54 + 1, -1, -15, greatest, least, least + 1} {
			if o, e := w.s.Big(n); o != nil || e != api.ErrArg {
				t.Errorf("Big(%d): %v, error %d", n, o != nil, e)
			}
		}
		w.holds("pages that may not be")
		w.bigs(15)
	}
}

// P10.2: a row of free slices that is just long enough, and one that is too short by one, at each place; as many slices free in all don't help.
func TestJustLongEnough(t *testing.T) {
	for n := 1; n <= 13; n++ {
		for at := 1; at+n <= 16; at++ {
			w := newTwin(t, memory(t, 32768), 1)
			// In front, and behind, the slices are taken one by one; those between are one page, that goes.
			for range at - 1 {
				w.pages(7)
			}
			w.bigsAll(n)
			for range 16 - at - n {
				w.pages(7)
			}
			w.dropsAll(at)
			for c, k := range kinds() {
				if o := w.pages(c); (o != nil) != (k.slices <= n) || o != nil && o.At != at {
					t.Fatalf("class %d in %d at %d: %s", c, n, at, w.text)
				} else if o != nil {
					w.dropsAll(at)
				}
			}
			for more := n + 1; more <= 15; more++ {
				if w.bigs(more) != nil {
					t.Fatalf("Big(%d) in %d at %d: %s", more, n, at, w.text)
				}
			}
			if o := w.bigs(n); o == nil || o.At != at {
				t.Fatalf("Big(%d) at %d: %s", n, at, w.text)
			}
		}
	}
}

// P10.2: free slices that don't stand in a row: ErrFull, however many they are.
func TestFreeButNotInARow(t *testing.T) {
	w := newTwin(t, memory(t, 32768), 1)
	for range 15 {
		w.pages(0)
	}
	w.dropsAll(1, 3, 5, 7, 9, 11, 13, 15)
	if w.text != "#.c.e.g.i.k.m.o." || w.bigs(2) != nil || w.pages(8) != nil || w.pages(11) != nil {
		t.Fatal(w.text)
	}
	w.dropsAll(8)
	if w.text != "#.c.e.g...k.m.o." || w.pages(10) != nil || w.bigs(4) != nil {
		t.Fatal(w.text)
	}
	w.bigsAll(3)
	if w.text != "#.c.e.ghhhk.m.o." {
		t.Fatal(w.text)
	}
	w.bigsAll(1)
	w.pages(6)
	if w.text != "#bcde.ghhhk.m.o." {
		t.Fatal(w.text)
	}
}

// P10.2: the lowest place counts, not the one that is just long enough; slice 0 is never a page's.
func TestLowestRow(t *testing.T) {
	w := newTwin(t, memory(t, 32768), 0)
	w.bigsAll(1, 3, 1, 2, 1, 4, 1, 2)
	if w.text != "#bcccfggijjjjnoo" {
		t.Fatal(w.text)
	}
	w.dropsAll(2, 6, 9, 14)
	w.bigsAll(2, 2, 1, 4, 2)
	if w.text != "#bccefgg"+"ijjjjnoo" {
		t.Fatal(w.text)
	}
}

// P10.2: Drop where no page begins: ErrNone, within a page, too, and nothing changes.
func TestDropWhereNoPageBegins(t *testing.T) {
	w := newTwin(t, memory(t, 32768), 1)
	strange := []int{-1, -2, -15, -16, 16, 17, 31, 32, 1 << 32, 1<<32 + 1, greatest, least, least + 1, 0}
	for _, at := range append(strange, 1, 2, 15) {
		if e := w.drops(at); e != api.ErrNone {
			t.Errorf("Drop(%d) of a new segment: error %d", at, e)
		}
	}
	w.bigsAll(2)
	w.pages(11)
	w.pages(0)
	w.pages(9)
	if w.text != "#bbddddhii......" {
		t.Fatal(w.text)
	}
	for _, at := range append(strange, 2, 4, 5, 6, 9, 10, 15) {
		if e := w.drops(at); e != api.ErrNone {
			t.Errorf("Drop(%d): error %d", at, e)
		}
	}
	w.dropsAll(3)
	for _, at := range []int{3, 4, 5, 6} {
		if e := w.drops(at); e != api.ErrNone {
			t.Errorf("Drop(%d) of a page that is gone: error %d", at, e)
		}
	}
	w.dropsAll(1, 7, 8)
}

// P10.2: a page with a used block: ErrThere, be it the first one, or the last; with none used it goes, made ones or not.
func TestDropOfUsed(t *testing.T) {
	for c, k := range kinds() {
		w := newTwin(t, memory(t, 32768), 1)
		o := w.pages(c)
		l := allocs(t, o, k.blocks)
		for i, addr := range l {
			if e := w.drops(1); e != api.ErrThere || o.Used() != k.blocks-i {
				t.Fatalf("class %d, %d used: error %d", c, o.Used(), e)
			}
			if e := o.Free(addr); e != api.OK {
				t.Fatalf("class %d: Free: error %d", c, e)
			}
		}
		w.dropsAll(1)
		if e := w.drops(1); e != api.ErrNone {
			t.Errorf("class %d: a second Drop: error %d", c, e)
		}
		if o := w.bigs(15); o == nil {
			t.Errorf("class %d: what a Drop left isn't free", c)
		}
	}
}

// P10.2: of the pages of a segment, just those with a used block stay.
func TestDropAsksThePageItself(t *testing.T) {
	w := newTwin(t, memory(t, 32768), 1)
	var l []*seg.Owned
	for _, n := range []int{1, 3, 2, 5, 4} {
		l = append(l, w.bigs(n))
	}
	for i, o := range l {
		addr := allocs(t, o, 1)[0]
		for j, p := range l {
			if i == j {
				if e := w.drops(p.At); e != api.ErrThere {
					t.Fatalf("Drop(%d): error %d", p.At, e)
				}
				continue
			}
			at, n := p.At, p.Slices
			w.dropsAll(at)
			if l[j] = w.bigs(n); l[j].At != at {
				t.Fatal(w.text)
			}
		}
		if e := o.Free(addr); e != api.OK {
			t.Fatalf("Free: error %d", e)
		}
	}
}

// P10.2: blocks that others posted are used till they are gathered: ErrThere till then, and no cell is asked by that.
func TestDropOfPosted(t *testing.T) {
	w := newTwin(t, memory(t, 32768), 1)
	o := w.pages(5)
	addr := allocs(t, o, 1)[0]
	head, tag := o.Cell().Load()
	if ok, e := o.Post(addr, head, tag); !ok || e != api.OK {
		t.Fatalf("Post: %t, error %d", ok, e)
	}
	asked := cell.Asked(o.Cell())
	if e := w.drops(1); e != api.ErrThere || cell.Asked(o.Cell()) != asked {
		t.Errorf("Drop: error %d, the cell was asked %d times", e, cell.Asked(o.Cell())-asked)
	}
	if n, e := o.Gather(); n != 1 || e != api.OK {
		t.Fatalf("Gather: %d, error %d", n, e)
	}
	w.dropsAll(1)
}

// P10.2 and P10.3: a page that comes where one went is a new one: nothing made, nothing posted; and the one that went is no part of the segment.
func TestOneInAnothersPlace(t *testing.T) {
	w := newTwin(t, memory(t, 32768), 1)
	old := w.pages(9)
	l := allocs(t, old, 4)
	head, tag := old.Cell().Load()
	old.Post(l[0], head, tag)
	old.Gather()
	old.Free(l[1:]...)
	w.dropsAll(1)
	for _, cut := range []func() *seg.Owned{
		func() *seg.Owned { return w.pages(9) },
		func() *seg.Owned { return w.pages(2) },
		func() *seg.Owned { return w.bigs(2) },
		func() *seg.Owned { return w.bigs(15) },
	} {
		o := cut()
		if o == old || o.Page == old.Page || o.Cell() == old.Cell() || o.At != 1 {
			t.Fatal("the page that went came back")
		}
		w.finds(17408)
		allocs(t, old, 1)
		if o.Used() != 0 || w.drops(1) != api.OK {
			t.Fatal("a block of the page that went keeps the one that came")
		}
		old.Free(17408)
	}
}

// P10.3: all addresses of a segment of pages of many kinds, and those beside it; behind a page's last block, too.
func TestFindOfAllAddresses(t *testing.T) {
	m := memory(t, 3*16384)
	for at := range 3 {
		w := newTwin(t, m, at)
		w.pages(2)
		w.bigsAll(1)
		w.pages(10)
		w.bigsAll(2)
		w.pages(8)
		w.bigsAll(1)
		w.dropsAll(2, 7)
		if w.text != "#b.dddd..jjl...." {
			t.Fatal(w.text)
		}
		for addr := range m.Size() + 16384 {
			w.finds(addr)
		}
	}
}

// P10.3: addresses outside the segment: ErrRange, within the memory or not.
func TestFindOutside(t *testing.T) {
	m := memory(t, api.MaxSize)
	for _, at := range []int{0, 1, 31, 62, 63} {
		w := newTwin(t, m, at)
		w.bigsAll(15)
		first, end := w.from(0), w.from(16)
		for _, addr := range []uint64{
			0, 1, 1024, 16383, 16384, first - 1, first - 1024, first - 16384, end, end + 1, end + 1024, end + 16384,
			api.MaxSize - 1, api.MaxSize, api.MaxSize + 1024, api.MaxSize + first + 1024, 1 << 32, 1<<32 + first + 1024,
			1 << 63, 1<<63 + first + 1024, highest - 1023, highest,
		} {
			w.finds(addr)
			if o, e := w.s.Find(addr); (addr < first || addr >= end) && (o != nil || e != api.ErrRange) {
				t.Errorf("at %d: Find(%d): %v, error %d", at, addr, o != nil, e)
			}
		}
	}
}

// P10.3: the row of pages is new memory: whoever gets it may write on it, its spare room too.
func TestPagesAreANewRow(t *testing.T) {
	w := newTwin(t, memory(t, 32768), 1)
	w.bigsAll(1, 3, 2)
	for range 3 {
		l, m := w.s.Pages(), w.s.Pages()
		l = l[:cap(l)]
		for i := range l {
			l[i] = nil
		}
		if m[0] == nil || m[1] == nil || m[2] == nil {
			t.Fatal("two rows share their memory")
		}
		w.holds("a row that was written on")
	}
}

// P10.2 to P10.4: whoever has a page may write over its fields: the segment's pages stay as they are.
func TestFieldsThatWereWrittenOver(t *testing.T) {
	m := memory(t, 32768)
	other, _ := page.New(m, geo.Run{From: 64, Size: 16, N: 4})
	for _, x := range []seg.Owned{{}, {Class: 5, At: 9, Slices: 15}, {Page: other, Class: 3, At: 2, Slices: 1}, {At: -1, Slices: greatest}, {Page: other, Class: least, At: greatest, Slices: least}} {
		w := newTwin(t, m, 1)
		first, o := w.bigs(2), w.pages(11)
		addr := allocs(t, o, 1)[0]
		*first, *o = x, x
		if e := w.s.Drop(3); e != api.ErrThere {
			t.Fatalf("%+v: Drop of a used one: error %d", x, e)
		}
		*first, *o = x, x
		if p, e := w.s.Big(12); p != nil || e != api.ErrFull {
			t.Fatalf("%+v: Big: %v, error %d", x, p != nil, e)
		}
		w.finds(w.from(6))
		*first, *o = x, x
		w.holds("fields that were written over")
		*first, *o = x, x
		if e := w.s.Drop(2); e != api.ErrNone {
			t.Fatalf("%+v: Drop within a page: error %d", x, e)
		}
		w.holds("fields that were written over")
		if e := o.Free(addr); e != api.OK {
			t.Fatalf("%+v: Free: error %d", x, e)
		}
		*first, *o = x, x
		if e := w.s.Drop(3); e != api.OK || w.s.Left() != 13 {
			t.Fatalf("%+v: Drop: error %d, Left %d", x, e, w.s.Left())
		}
		if *o != x {
			t.Errorf("%+v: the page that went is another one: %+v", x, *o)
		}
	}
}

// P10.2: what the page has, the segment's page has: Alloc, Free, Post, Gather, Lists, Cell, Run, Used, Made.
func TestPromoted(t *testing.T) {
	w := newTwin(t, memory(t, 32768), 1)
	o := w.pages(7)
	if l := allocs(t, o, 3); !slices.Equal(l, []uint64{17408, 17664, 17920}) || o.Made() != 4 || o.Used() != 3 {
		t.Fatal(l, o.Made(), o.Used())
	}
	if e := o.Free(17664); e != api.OK {
		t.Errorf("Free: error %d", e)
	}
	if ok, e := o.Post(17408, 0, 0); !ok || e != api.OK {
		t.Errorf("Post: %t, error %d", ok, e)
	}
	a, b, c, e := o.Lists()
	if !slices.Equal(a, []uint64{18176}) || !slices.Equal(b, []uint64{17664}) || !slices.Equal(c, []uint64{17408}) || e != api.OK {
		t.Errorf("Lists: %v, %v, %v, error %d", a, b, c, e)
	}
	// The page that is found is the one that was made: what was done there is done.
	p, e := w.s.Find(17408)
	if e != api.OK || p.Cell() != o.Cell() {
		t.Fatalf("Find: error %d", e)
	}
	if n, e := p.Gather(); n != 1 || e != api.OK || o.Used() != 1 {
		t.Errorf("Gather: %d, error %d", n, e)
	}
	var none seg.Owned
	if addr, e := none.Alloc(); addr != 0 || e != api.ErrNil {
		t.Errorf("Alloc of no page: %d, error %d", addr, e)
	}
}

// P10.2: what a segment does writes nothing into its memory; its pages write their links within their blocks alone.
func TestMemoryStays(t *testing.T) {
	m := memory(t, 3*16384)
	b := told(t, m)
	w := newTwin(t, m, 1)
	for c := range kinds() {
		w.pages(c)
		w.drops(1)
	}
	w.bigsAll(15)
	w.dropsAll(1)
	w.bigsAll(3)
	o := w.pages(4)
	w.pages(2)
	if !bytes.Equal(told(t, m), b) {
		t.Fatal("a segment wrote")
	}
	for _, addr := range allocs(t, o, 10) {
		if e := m.Fill(addr, 96, 0xee); e != api.OK {
			t.Fatal(e)
		}
	}
	end := w.from(4) + 960
	if got := told(t, m); !bytes.Equal(got[:w.from(4)], b[:w.from(4)]) || !bytes.Equal(got[end:], b[end:]) {
		t.Error("beside a page's blocks stands something else")
	}
}

// P10.4: segments of one memory have nothing of one another; nor do two of one place.
func TestSegmentsSideBySide(t *testing.T) {
	m := memory(t, 3*16384)
	l := []*twin{newTwin(t, m, 0), newTwin(t, m, 1), newTwin(t, m, 2), newTwin(t, m, 1)}
	r := rand.New(rand.NewPCG(10, 3))
	for range 2000 {
		i := r.IntN(len(l))
		l[i].random(r)
		l[r.IntN(len(l))].holds("another one's call")
	}
	var runs []geo.Run
	for _, w := range l[:3] {
		runs = append(runs, w.runs()...)
	}
	if geo.Meet(runs...) {
		t.Error("two pages meet")
	}
}

// runs are those of all pages.
func (w *twin) runs() []geo.Run {
	var l []geo.Run
	for _, o := range w.s.Pages() {
		l = append(l, o.Run())
	}
	return l
}

// apart holds P10.4: no two pages meet, by their runs, and by their slices; and none has the segment's own one, or what isn't the segment's.
func (w *twin) apart() {
	w.t.Helper()
	if geo.Meet(w.runs()...) {
		w.t.Fatalf("%s: two pages meet", w.text)
	}
	end, left := 1, 15
	for _, o := range w.s.Pages() {
		if o.At < end || o.Run().From != w.from(o.At) || o.Run().End() > w.from(o.At+o.Slices) {
			w.t.Fatalf("%s: the page at %d, of %d slices, %+v", w.text, o.At, o.Slices, o.Run())
		}
		end = o.At + o.Slices
		left -= o.Slices
	}
	if end > 16 || left != w.s.Left() {
		w.t.Fatalf("%s: the last one ends at %d, Left %d", w.text, end, w.s.Left())
	}
}

// random does a call, one that is refused, too, and uses blocks of pages meanwhile.
func (w *twin) random(r *rand.Rand) {
	w.t.Helper()
	switch r.IntN(8) {
	case 0, 1:
		w.pages(r.IntN(12))
	case 2:
		w.bigs(1 + r.IntN(4))
	case 3:
		w.bigs(1 + r.IntN(15))
	case 4, 5:
		w.drops(r.IntN(18) - 1)
	case 6:
		w.finds(w.from(0) - 1024 + r.Uint64N(18*1024))
	case 7:
		w.use(r)
	}
	w.apart()
}

// use hands out a block of some page, or takes all of them back.
func (w *twin) use(r *rand.Rand) {
	w.t.Helper()
	l := w.s.Pages()
	if len(l) == 0 {
		return
	}
	o := l[r.IntN(len(l))]
	if o.Used() == 0 {
		allocs(w.t, o, 1)
		return
	}
	for i := range o.Made() {
		addr, e := o.Run().Block(i)
		if e != api.OK {
			w.t.Fatal(e)
		}
		if o.Used() > 0 {
			o.Free(addr)
		}
	}
}

// P10.1 to P10.4: long rows of calls, at all places.
func TestLongRows(t *testing.T) {
	m := memory(t, api.MaxSize)
	r := rand.New(rand.NewPCG(10, 1))
	for at := range 64 {
		w := newTwin(t, m, at)
		for range 500 {
			w.random(r)
		}
	}
}

// P10.1 to P10.4: all rows of five calls, of a chosen few.
func TestShortRows(t *testing.T) {
	const long = 5
	m := memory(t, 32768)
	calls := []func(w *twin){
		func(w *twin) { w.pages(0) },
		func(w *twin) { w.pages(11) },
		func(w *twin) { w.bigs(2) },
		func(w *twin) { w.bigs(7) },
		func(w *twin) { w.drops(1) },
		func(w *twin) { w.drops(2) },
		func(w *twin) { w.drops(5) },
		func(w *twin) {
			if o, _ := w.s.Find(17408 + 4096); o != nil && o.Used() == 0 {
				o.Alloc()
			}
		},
	}
	rows := 1
	for range long {
		rows *= len(calls)
	}
	for row := range rows {
		w := newTwin(t, m, 1)
		for range long {
			calls[row%len(calls)](w)
			row /= len(calls)
		}
		w.apart()
	}
}
