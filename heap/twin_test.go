package heap_test

import (
	"encoding/binary"
	"slices"
	"strconv"
	"testing"

	"allotment/api"
	"allotment/arena"
	"allotment/cell"
	"allotment/class"
	"allotment/heap"
	"allotment/mem"
	"allotment/seg"
)

// kind is what chapter 5 says of a class: a block's bytes, its pages' slices, and how many blocks these have.
type kind struct {
	size           uint64
	slices, blocks int
}

func kinds() []kind {
	return []kind{
		{16, 1, 64}, {32, 1, 32}, {48, 1, 21}, {64, 1, 16}, {96, 1, 10}, {128, 1, 8}, {192, 1, 5}, {256, 1, 4},
		{384, 2, 5}, {512, 2, 4}, {768, 4, 5}, {1024, 4, 4},
	}
}

// classes are all numbers that pages have for a class, in the order in which Pages tells them.
func classes() []int { return []int{0, 1, 2, 3, 4, 5, 6, 7, 8, 9, 10, 11, -1} }

// leaf is what a page is to be: its blocks in plain rows.
type leaf struct {
	class, at, slices   int
	from, size          uint64
	n, made, used       int
	free, local, posted []uint64
}

func (p *leaf) block(i int) uint64 { return p.from + uint64(i)*p.size }

// alloc hands out a block as chapter 9 says; false of none.
func (p *leaf) alloc() (uint64, bool) {
	if len(p.free) == 0 {
		p.free, p.local = p.local, nil
	}
	for i := 0; i < 4 && p.made < p.n && len(p.free) == i; i++ {
		p.free = append(p.free, p.block(p.made))
		p.made++
	}
	if len(p.free) == 0 {
		return 0, false
	}
	addr := p.free[0]
	p.free = p.free[1:]
	p.used++
	return addr, true
}

// back is the error that a block's coming back has, whatever is used.
func (p *leaf) back(addr uint64) api.Errno {
	switch {
	case addr >= p.block(p.n):
		return api.ErrRange
	case (addr-p.from)%p.size != 0 || addr >= p.block(p.made):
		return api.ErrNone
	}
	return api.OK
}

// plot is what a segment is to be: of each slice, the page that has it.
type plot struct {
	s     *seg.Segment
	place int
	on    [16]*leaf
	owner uint64
	asked int
}

func (g *plot) left() int {
	n := 0
	for _, p := range g.on[1:] {
		if p == nil {
			n++
		}
	}
	return n
}

func (g *plot) pages() []*leaf {
	var l []*leaf
	for i, p := range g.on {
		if p != nil && p.at == i {
			l = append(l, p)
		}
	}
	return l
}

// cut makes a page of n slices, the lowest that stand free in a row; nil, if none do.
func (g *plot) cut(c, n int, size uint64, blocks int) *leaf {
	for at := 1; at+n <= 16; at++ {
		if slices.ContainsFunc(g.on[at:at+n], func(p *leaf) bool { return p != nil }) {
			continue
		}
		p := &leaf{class: c, at: at, slices: n, from: uint64(g.place)*16384 + uint64(at)*1024, size: size, n: blocks}
		for i := range n {
			g.on[at+i] = p
		}
		return p
	}
	return nil
}

// owned is a heap, and beside it what it is to have.
type owned struct {
	h           *heap.Heap
	id          uint64
	plots       []*plot
	ready, full map[int][]*leaf
}

// find is the page that an address is in, and its segment.
func (o *owned) find(addr uint64) (*plot, *leaf) {
	for _, g := range o.plots {
		if addr/16384 == uint64(g.place) && g.on[addr%16384/1024] != nil {
			return g, g.on[addr%16384/1024]
		}
	}
	return nil, nil
}

// pages are where pages of some classes begin.
func (o *owned) pages(c ...int) []uint64 {
	var l []uint64
	for _, i := range c {
		for _, p := range slices.Concat(o.ready[i], o.full[i]) {
			l = append(l, p.from)
		}
	}
	return l
}

// without is a row that a thing was taken from, and whether it was there.
func without[T comparable](l []T, x T) ([]T, bool) {
	var rest []T
	for _, y := range l {
		if y != x {
			rest = append(rest, y)
		}
	}
	return rest, len(rest) < len(l)
}

func (o *owned) forget(p *leaf) {
	o.ready[p.class], _ = without(o.ready[p.class], p)
	o.full[p.class], _ = without(o.full[p.class], p)
}

func (o *owned) wake(p *leaf) {
	if rest, ok := without(o.full[p.class], p); ok {
		o.full[p.class] = rest
		o.ready[p.class] = append(o.ready[p.class], p)
	}
}

// twin is some heaps of one memory, and one arena, and beside them what all that is to be.
type twin struct {
	t     *testing.T
	m     *mem.Mem
	a     *arena.Arena
	segs  int // of the memory
	limit int
	given []int // of each of the arena's places, how many segments the region has that begins there
	told  []bool
	no    int // how often it refused
	heaps []*owned
	spare []*plot           // segments that no heap has
	live  map[uint64]uint64 // of each block that is handed out, its bytes
	done  []string
}

// newTwin is n heaps over so many segments of memory, and of arena, of which so many may be given at once.
func newTwin(t *testing.T, n, segs, places, limit int) *twin {
	t.Helper()
	m, e := mem.New(uint64(segs) * 16384)
	if e != api.OK {
		t.Fatal(e)
	}
	a, e := arena.New(places, limit)
	if e != api.OK {
		t.Fatal(e)
	}
	w := &twin{t: t, m: m, a: a, segs: segs, limit: limit, given: make([]int, places), live: map[uint64]uint64{}}
	for i := range n {
		id := uint64(i)*7 + 1
		h, e := heap.New(m, a, id)
		if h == nil || e != api.OK {
			t.Fatalf("New: %v, error %d", h != nil, e)
		}
		w.heaps = append(w.heaps, &owned{h: h, id: id, ready: map[int][]*leaf{}, full: map[int][]*leaf{}})
	}
	w.holds()
	return w
}

func (w *twin) does(what string, x ...int) {
	for _, n := range x {
		what += " " + strconv.Itoa(n)
	}
	w.done = append(w.done, what)
}

func (w *twin) fatalf(form string, x ...any) {
	w.t.Helper()
	for _, d := range w.done[max(0, len(w.done)-40):] {
		w.t.Log(d)
	}
	w.t.Fatalf(form, x...)
}

// holds asks all that the heaps, their segments, and the arena tell; nothing is changed by that.
func (w *twin) holds() {
	w.t.Helper()
	for i, o := range w.heaps {
		l := o.h.Segs()
		if len(l) != len(o.plots) {
			w.fatalf("heap %d: %d segments; wanted %d", i, len(l), len(o.plots))
		}
		for j, g := range o.plots {
			if l[j] != g.s {
				w.fatalf("heap %d: the segment %d is another one", i, j)
			}
			w.plotHolds(g)
		}
		for _, c := range classes() {
			if got, want := o.h.Pages(c), o.pages(c); !slices.Equal(got, want) {
				w.fatalf("heap %d: Pages(%d): %v; wanted %v", i, c, got, want)
			}
		}
		if got, want := o.h.Pages(), o.pages(classes()...); !slices.Equal(got, want) {
			w.fatalf("heap %d: Pages(): %v; wanted %v", i, got, want)
		}
	}
	for _, g := range w.spare {
		w.plotHolds(g)
	}
	var regions []arena.Region
	for at, n := range w.given {
		if n > 0 {
			regions = append(regions, arena.Region{At: at, N: n})
		}
	}
	if got := w.a.Regions(); !slices.Equal(got, regions) || w.a.Refused() != w.no {
		w.fatalf("the arena: %v, refused %d times; wanted %v, %d", got, w.a.Refused(), regions, w.no)
	}
}

// plotHolds asks a segment: its pages, how many of their blocks are made and used, its owner, and how often that was asked.
func (w *twin) plotHolds(g *plot) {
	w.t.Helper()
	look := *g.s.Owner() // a copy is a cell of its own: so the segment's isn't asked
	word, _ := look.Load()
	if word != g.owner || cell.Asked(g.s.Owner()) != g.asked || g.s.Left() != g.left() {
		w.fatalf("segment %d: owner %d, asked %d times, %d left; wanted %d, %d, %d", g.place, word, cell.Asked(g.s.Owner()), g.s.Left(), g.owner, g.asked, g.left())
	}
	l, want := g.s.Pages(), g.pages()
	if len(l) != len(want) {
		w.fatalf("segment %d: %d pages; wanted %d", g.place, len(l), len(want))
	}
	for i, p := range want {
		q := l[i]
		if q.Class != p.class || q.At != p.at || q.Slices != p.slices || q.Run().From != p.from || q.Run().Size != p.size || q.Run().N != p.n {
			w.fatalf("segment %d: page %+v, run %+v; wanted %+v", g.place, q, q.Run(), *p)
		}
		if q.Used() != p.used || q.Made() != p.made {
			w.fatalf("page at %d: %d used, %d made; wanted %d, %d", p.from, q.Used(), q.Made(), p.used, p.made)
		}
	}
}

// handsOut holds a block against those that are handed out, and writes all of its bytes; whether it meets another one is seen when that comes back.
func (w *twin) handsOut(p *leaf, addr uint64) {
	w.t.Helper()
	if _, ok := w.live[addr]; ok {
		w.fatalf("%d is handed out again", addr)
	}
	w.live[addr] = p.size
	w.fill(addr)
}

func (w *twin) fill(addr uint64) {
	w.t.Helper()
	var mark [8]byte
	binary.LittleEndian.PutUint64(mark[:], addr|1<<60)
	if e := w.m.Fill(addr, w.live[addr], mark[:]...); e != api.OK {
		w.fatalf("Fill of %d: error %d", addr, e)
	}
}

// stays holds what was written into a block against what is read from it.
func (w *twin) stays(addr uint64) {
	w.t.Helper()
	b, e := w.m.Get(addr, w.live[addr])
	if e != api.OK {
		w.fatalf("Get of %d: error %d", addr, e)
	}
	for i := 0; i < len(b); i += 8 {
		if binary.LittleEndian.Uint64(b[i:]) != addr|1<<60 {
			w.fatalf("block %d was written over", addr)
		}
	}
}

// local holds a Local against what it is to be, and answers the block, 0 of none; as the others do.
func (w *twin) local(i, c int) uint64 {
	w.t.Helper()
	w.does("Local", i, c)
	o := w.heaps[i]
	addr, f := uint64(0), api.ErrArg
	if c >= 0 && c < 12 {
		f = api.ErrFull
	}
	var from *leaf
	for f == api.ErrFull && len(o.ready[c]) > 0 {
		p := o.ready[c][0]
		if x, ok := p.alloc(); ok {
			addr, f, from = x, api.OK, p
			break
		}
		o.ready[c] = slices.Clone(o.ready[c][1:])
		o.full[c] = append(o.full[c], p)
	}
	if got, e := o.h.Local(c); got != addr || e != f {
		w.fatalf("Local(%d): %d, error %d; wanted %d, error %d", c, got, e, addr, f)
	}
	if from != nil {
		w.handsOut(from, addr)
	}
	return addr
}

func (w *twin) fresh(i int, plan class.Plan) uint64 {
	w.t.Helper()
	w.does("Fresh", i, plan.Class, plan.Slices)
	o, c := w.heaps[i], plan.Class
	var k kind
	switch {
	case c >= 0 && c < 12:
		k = kinds()[c]
	case c == -1 && plan.Slices >= 1 && plan.Slices <= 15:
		k = kind{uint64(plan.Slices) * 1024, plan.Slices, 1}
	}
	addr, f := uint64(0), api.ErrArg
	var p *leaf
	if k.slices > 0 {
		f = api.ErrFull
		for _, g := range o.plots {
			if p = g.cut(c, k.slices, k.size, k.blocks); p != nil {
				o.ready[c] = append(o.ready[c], p)
				addr, _ = p.alloc()
				f = api.OK
				break
			}
		}
	}
	if got, e := o.h.Fresh(plan); got != addr || e != f {
		w.fatalf("Fresh(%+v): %d, error %d; wanted %d, error %d", plan, got, e, addr, f)
	}
	if p != nil {
		w.handsOut(p, addr)
	}
	return addr
}

// of is Fresh of a class, single Fresh of one block of so many slices.
func (w *twin) of(i, c int) uint64 { w.t.Helper(); return w.fresh(i, class.Plan{Class: c}) }
func (w *twin) single(i, n int) uint64 {
	w.t.Helper()
	return w.fresh(i, class.Plan{Class: -1, Slices: n})
}

// place is where the arena gives a segment next; -1: it refuses.
func (w *twin) place() int {
	no := len(w.told) > 0 && w.told[0]
	if len(w.told) > 0 {
		w.told = w.told[1:]
	}
	sum := 0
	for _, n := range w.given {
		sum += n
	}
	if no || sum == w.limit {
		w.no++
		return -1
	}
	for at := 0; at < len(w.given); at += max(1, w.given[at]) {
		if w.given[at] == 0 {
			return at
		}
	}
	w.no++
	return -1
}

func (w *twin) grow(i int) api.Errno {
	w.t.Helper()
	w.does("Grow", i)
	o, at, f := w.heaps[i], w.place(), api.OK
	switch {
	case at < 0:
		f = api.ErrFull
	case at >= w.segs:
		f = api.ErrArg
	}
	if e := o.h.Grow(); e != f {
		w.fatalf("Grow: error %d; wanted %d", e, f)
	}
	if f != api.OK {
		return f
	}
	l := o.h.Segs()
	s := l[len(l)-1]
	if s.Place() != at {
		w.fatalf("Grow: the last segment's place is %d; wanted %d", s.Place(), at)
	}
	w.given[at] = 1
	o.plots = append(o.plots, &plot{s: s, place: at, owner: o.id, asked: 1})
	return f
}

// tidies ends a page of which none is used, as the chapter says.
func (w *twin) tidies(o *owned, g *plot, p *leaf) {
	if p.used > 0 {
		return
	}
	o.forget(p)
	for i := range p.slices {
		g.on[p.at+i] = nil
	}
	if g.left() == 15 {
		o.plots, _ = without(o.plots, g)
		if g.place < len(w.given) {
			w.given[g.place] = 0
		}
	}
}

func (w *twin) free(i int, addr uint64) api.Errno {
	w.t.Helper()
	w.does("Free", i, int(addr))
	o, f := w.heaps[i], api.ErrNone
	g, p := o.find(addr)
	if p != nil {
		if f = p.back(addr); f == api.OK && p.used == 0 {
			f = api.ErrNone
		}
	}
	if f == api.OK {
		if _, ok := w.live[addr]; !ok {
			w.fatalf("the test gives %d back, which isn't handed out", addr)
		}
		w.stays(addr)
		delete(w.live, addr)
		p.local = slices.Insert(slices.Clone(p.local), 0, addr)
		p.used--
		o.wake(p)
		w.tidies(o, g, p)
	}
	if e := o.h.Free(addr); e != f {
		w.fatalf("Free(%d): error %d; wanted %d", addr, e, f)
	}
	return f
}

func (w *twin) gather(i int, addr uint64) int {
	w.t.Helper()
	w.does("Gather", i, int(addr))
	o, n, f := w.heaps[i], 0, api.ErrNone
	if g, p := o.find(addr); p != nil {
		n, f = len(p.posted), api.OK
		p.local = slices.Concat(p.posted, p.local)
		p.posted = nil
		p.used -= n
		if n > 0 {
			o.wake(p)
		}
		w.tidies(o, g, p)
	}
	if got, e := o.h.Gather(addr); got != n || e != f {
		w.fatalf("Gather(%d): %d, error %d; wanted %d, error %d", addr, got, e, n, f)
	}
	return n
}

// post gives a block back as another thread does, wherever its segment is.
func (w *twin) post(addr uint64) {
	w.t.Helper()
	w.does("post", int(addr))
	w.stays(addr)
	delete(w.live, addr)
	for _, g := range w.all() {
		p := g.on[addr%16384/1024]
		if addr/16384 != uint64(g.place) || p == nil {
			continue
		}
		q, e := g.s.Find(addr)
		if e != api.OK {
			w.fatalf("Find(%d): error %d", addr, e)
		}
		head, tag := q.Cell().Load()
		if ok, e := q.Post(addr, head, tag); !ok || e != api.OK {
			w.fatalf("Post of %d: %t, error %d", addr, ok, e)
		}
		p.posted = slices.Insert(slices.Clone(p.posted), 0, addr)
		return
	}
	w.fatalf("post: no segment has %d", addr)
}

// all are the segments of all heaps, and those that none has.
func (w *twin) all() []*plot {
	var l []*plot
	for _, o := range w.heaps {
		l = append(l, o.plots...)
	}
	return append(l, w.spare...)
}

func (w *twin) leave(i, place int) *plot {
	w.t.Helper()
	w.does("Leave", i, place)
	o := w.heaps[i]
	var g *plot
	for _, x := range o.plots {
		if x.place == place {
			g = x
		}
	}
	s, e := o.h.Leave(place)
	if g == nil {
		if s != nil || e != api.ErrNone {
			w.fatalf("Leave(%d): %v, error %d; wanted ErrNone", place, s != nil, e)
		}
		return nil
	}
	if s != g.s || e != api.OK {
		w.fatalf("Leave(%d): %t, error %d; wanted its segment", place, s == g.s, e)
	}
	o.plots, _ = without(o.plots, g)
	for _, p := range g.pages() {
		o.forget(p)
	}
	w.spare = append(w.spare, g)
	return g
}

func (w *twin) adopt(i int, g *plot) api.Errno {
	w.t.Helper()
	w.does("Adopt", i, g.place)
	o, f := w.heaps[i], api.OK
	if slices.ContainsFunc(o.plots, func(x *plot) bool { return x.place == g.place }) {
		f = api.ErrThere
	}
	if e := o.h.Adopt(g.s); e != f {
		w.fatalf("Adopt of %d: error %d; wanted %d", g.place, e, f)
	}
	if f == api.OK {
		w.spare, _ = without(w.spare, g)
		o.plots = append(o.plots, g)
		for _, p := range g.pages() {
			o.ready[p.class] = append(o.ready[p.class], p)
		}
	}
	return f
}

func (w *twin) refuse(l ...bool) {
	w.t.Helper()
	w.does("Refuse", len(l))
	if e := w.a.Refuse(l...); e != api.OK {
		w.fatalf("Refuse: error %d", e)
	}
	w.told = append(w.told, l...)
}

// handedOut are all live blocks, rising.
func (w *twin) handedOut() []uint64 {
	var l []uint64
	for addr := range w.live {
		l = append(l, addr)
	}
	slices.Sort(l)
	return l
}

// ends gives everything back, gathers what was posted, and holds: no heap has anything but segments that never had a page, the arena the rest.
func (w *twin) ends() {
	w.t.Helper()
	for len(w.spare) > 0 {
		w.adopt(0, w.spare[0])
	}
	for i, o := range w.heaps {
		for _, addr := range w.handedOut() {
			if _, p := o.find(addr); p != nil {
				w.free(i, addr)
			}
		}
		for _, from := range o.h.Pages() {
			w.gather(i, from)
		}
		w.holds()
		if len(o.h.Pages()) > 0 {
			w.fatalf("all given back: pages %v", o.h.Pages())
		}
		for _, g := range slices.Clone(o.plots) { // what grew, and had no page since
			if g.left() != 15 {
				w.fatalf("all given back: segment %d has %d slices left", g.place, g.left())
			}
			w.free(i, w.single(i, 15))
		}
		if len(o.h.Segs()) > 0 {
			w.fatalf("all given back: segments")
		}
	}
	w.holds()
	if w.a.Given() != 0 || len(w.live) > 0 {
		w.fatalf("all given back: the arena has given %d, %d live", w.a.Given(), len(w.live))
	}
}
