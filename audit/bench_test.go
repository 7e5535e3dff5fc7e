package audit_test

import (
	"bytes"
	"slices"
	"testing"

	"allotment/api"
	"allotment/audit"
	"allotment/call"
	"allotment/cell"
	"allotment/seg"
	"allotment/world"
)

const greatest = 1<<64 - 1

// bench is a world that is looked at.
type bench struct {
	t *testing.T
	*world.World
}

// newBench is one whose threads are all up.
func newBench(t *testing.T, segs, limit, threads int) *bench {
	t.Helper()
	w, e := world.New(segs, limit, threads)
	if e != api.OK {
		t.Fatalf("New(%d, %d, %d): error %d", segs, limit, threads, e)
	}
	for th := range threads {
		w.Start(th)
	}
	return &bench{t, w}
}

// begins begins a call of a thread.
func (b *bench) begins(th int, c api.Call) {
	b.t.Helper()
	if e := b.Call(th, c); e != api.OK {
		b.t.Fatalf("Call(%d, %+v): error %d", th, c, e)
	}
}

// ends steps a thread till its call is over.
func (b *bench) ends(th int) api.Result {
	b.t.Helper()
	for n := 0; b.Pending(th); n++ {
		if n > 10000 {
			b.t.Fatalf("thread %d: no end", th)
		}
		b.Step(th)
	}
	r, _ := b.Result(th)
	return r
}

// does is a call of a thread, from its beginning to its end, that is to go well.
func (b *bench) does(th int, c api.Call) uint64 {
	b.t.Helper()
	b.begins(th, c)
	r := b.ends(th)
	if r.Err != api.OK {
		b.t.Fatalf("thread %d: %+v: error %d", th, c, r.Err)
	}
	return r.Addr
}

func (b *bench) malloc(th int, n uint64) uint64 {
	b.t.Helper()
	return b.does(th, api.Call{Kind: api.Malloc, N: n})
}

func (b *bench) free(th int, addr ...uint64) {
	b.t.Helper()
	for _, a := range addr {
		b.does(th, api.Call{Kind: api.Free, Addr: a})
	}
}

// past is a call that is done past the world: by its system alone.
func (b *bench) past(th int, c api.Call) uint64 {
	b.t.Helper()
	f, e := b.Sys().Begin(th, c)
	if e != api.OK {
		b.t.Fatalf("Begin(%d, %+v): error %d", th, c, e)
	}
	for f.Step() {
	}
	if r := f.Result(); r.Err != api.OK {
		b.t.Fatalf("thread %d, past the world: %+v: error %d", th, c, r.Err)
	}
	return f.Result().Addr
}

// page is the page that an address is in, of a thread's.
func (b *bench) page(th int, addr uint64) *seg.Owned {
	b.t.Helper()
	for _, g := range b.segs(th) {
		if p, e := g.Find(addr); e == api.OK {
			return p
		}
	}
	b.t.Fatalf("thread %d has no page at %d", th, addr)
	return nil
}

func (b *bench) segs(th int) []*seg.Segment {
	h, _ := b.Sys().Heap(th)
	return h.Segs()
}

// is holds what is told of the world against what is to be.
func (b *bench) is(r audit.Report) {
	b.t.Helper()
	if got, e := audit.Look(b.World); got != r || e != api.OK {
		b.t.Fatalf("Look: %+v, error %d; wanted %+v", got, e, r)
	}
}

// wrongs is how many wrongs there are.
func (b *bench) wrongs(n int) {
	b.t.Helper()
	if got, e := audit.Look(b.World); got.Wrong != n || e != api.OK {
		b.t.Fatalf("Look: %+v, error %d; wanted %d wrong", got, e, n)
	}
}

// rows holds a thread's blocks against what they are to be.
func (b *bench) rows(th int, free, posted []uint64) {
	b.t.Helper()
	f, p, e := audit.Blocks(b.Sys(), th)
	if !slices.Equal(f, free) || !slices.Equal(p, posted) || e != api.OK {
		b.t.Fatalf("Blocks(%d): %v, %v, error %d; wanted %v, %v", th, f, p, e, free, posted)
	}
}

// rowsErr holds the error of a thread's blocks against what it is to be; nothing is told beside it.
func (b *bench) rowsErr(th int, want api.Errno) {
	b.t.Helper()
	f, p, e := audit.Blocks(b.Sys(), th)
	if len(f) != 0 || len(p) != 0 || e != want {
		b.t.Fatalf("Blocks(%d): %v, %v, error %d; wanted %d", th, f, p, e, want)
	}
}

// state is all that can be told of a world, words that threads share, and how often those were asked, too.
type state struct {
	bytes          []byte
	asked, refused int
	numbers        []uint64
	live           []api.Block
}

// stateOf asks the cells only behind having counted how often they were asked, and asks copies of them.
func stateOf(w *world.World) state {
	s := w.Sys()
	x := state{refused: s.Arena().Refused(), live: w.Live()}
	x.bytes, _ = s.Mem().Get(0, s.Mem().Size())
	cells := []*cell.Cell{s.Stack().Cell()}
	for t := range 8 {
		h, _ := s.Heap(t)
		x.numbers = append(x.numbers, h.Pages()...)
		for _, g := range h.Segs() {
			cells = append(cells, g.Owner())
			x.numbers = append(x.numbers, uint64(g.Place()), uint64(g.Left()))
			for _, p := range g.Pages() {
				cells = append(cells, p.Cell())
				x.numbers = append(x.numbers, uint64(p.Class), uint64(p.Made()), uint64(p.Used()))
			}
		}
		x.numbers = append(x.numbers, greatest)
	}
	x.asked = cell.Asked(cells...)
	for _, c := range cells {
		look := *c
		word, tag := look.Load()
		x.numbers = append(x.numbers, word, tag)
	}
	for _, g := range s.Arena().Regions() {
		x.numbers = append(x.numbers, uint64(g.At), uint64(g.N))
	}
	for _, at := range s.Stack().All() {
		x.numbers = append(x.numbers, uint64(at))
	}
	return x
}

func (x state) same(o state) bool {
	return bytes.Equal(x.bytes, o.bytes) && x.asked == o.asked && x.refused == o.refused && slices.Equal(x.numbers, o.numbers) && slices.Equal(x.live, o.live)
}

// lookAtAll makes every call of this layer once, of every thread's heap, and of what is none.
func lookAtAll(w *world.World) {
	audit.Look(w)
	audit.Rest(w)
	for t := -1; t < 9; t++ {
		audit.Blocks(w.Sys(), t)
	}
}

// noThreads are numbers of which the system has no heap.
func noThreads() []int {
	return []int{-1, -2, 8, 9, 255, 256, 257, 1 << 31, 1 << 32, 1<<32 + 1, -1 << 31, -1 << 63, 1<<63 - 1}
}

// emptySys has a world's system be one that New didn't make.
func emptySys(w *world.World) { *w.Sys() = call.Sys{} }
