package audit_test

import (
	"math/rand/v2"
	"slices"
	"testing"

	"allotment/api"
	"allotment/audit"
	"allotment/class"
	"allotment/geo"
	"allotment/seg"
	"allotment/trace"
	"allotment/world"
)

// anyCall is a call, mostly one that may be.
func anyCall(r *rand.Rand, w *world.World) api.Call {
	c := api.Call{Kind: 1 + r.IntN(4), N: r.Uint64N(1 + []uint64{16, 600, 4000, 40000}[r.IntN(4)]), Align: []uint64{0, 1, 16, 512, 3}[r.IntN(5)], Zero: r.IntN(3) == 0, Force: r.IntN(2) == 0}
	switch r.IntN(60) {
	case 0:
		c.Kind = r.IntN(10) - 2
	case 1:
		c.Kind = api.Exit
	case 2:
		c.N = greatest
	}
	if l := w.Live(); len(l) > 0 && r.IntN(20) > 0 {
		c.Addr = l[r.IntN(len(l))].Addr
	}
	return c
}

// anyTurn is something that is done of a world: calls are begun, and stepped in any turns, blocks are written, the arena is to refuse.
func anyTurn(r *rand.Rand, w *world.World) {
	th := r.IntN(w.Threads())
	switch r.IntN(16) {
	case 0, 1, 2, 3:
		w.Call(th, anyCall(r, w))
	case 4:
		if l := w.Live(); len(l) > 0 {
			x := l[r.IntN(len(l))]
			w.Write(th, x.Addr, slices.Repeat([]byte{byte(r.IntN(256))}, int(x.N))...)
		}
	case 5:
		if r.IntN(10) == 0 {
			w.Sys().Arena().Refuse(r.IntN(2) == 0, r.IntN(2) == 0)
		}
	case 6:
		w.Start(th)
	default:
		for range r.IntN(4) {
			w.Step(r.IntN(w.Threads()))
		}
	}
}

// counts is what is to be told of a world, by its segments, their pages, and the blocks that are handed out.
func counts(w *world.World) audit.Report {
	s := w.Sys()
	var x audit.Report
	for th := range 8 {
		h, _ := s.Heap(th)
		for _, g := range h.Segs() {
			x.Segs++
			for _, p := range g.Pages() {
				x.Pages++
				x.Used += p.Used()
				x.Free += p.Made() - p.Used()
				_, _, posted, _ := p.Lists()
				x.Posted += len(posted)
			}
		}
	}
	for _, b := range w.Live() {
		if plan, _ := class.For(b.N, b.Align); plan.Segs > 0 {
			x.Huge++
		}
	}
	for n := range 64 {
		if slices.Contains(s.Stack().All(), n) {
			x.Nobody++
		}
	}
	return x
}

// parted says whether each block of a page that was made is one of: free, posted, or live, and just one; and nothing else is free, or posted.
func parted(p *seg.Owned, free, posted map[uint64]int, live []api.Block) bool {
	n := 0
	for i := range p.Made() {
		addr, _ := p.Run().Block(i)
		is := free[addr] + posted[addr]
		_, ok := slices.BinarySearchFunc(live, addr, func(b api.Block, addr uint64) int { return int(b.Addr) - int(addr) })
		if ok {
			is++
		}
		if is != 1 {
			return false
		}
		n += free[addr] + posted[addr]
	}
	for addr := range free {
		if p.Run().In(addr) {
			n -= free[addr]
		}
	}
	for addr := range posted {
		if p.Run().In(addr) {
			n -= posted[addr]
		}
	}
	return n == 0
}

// whole holds all blocks of a world in which nobody has a call against one another: those of its heaps are free, posted or live; regions are the system's own one, a heap's segment, nobody's, or huge.
func whole(t *testing.T, w *world.World) {
	t.Helper()
	s := w.Sys()
	for th := range 8 {
		l, o, e := audit.Blocks(s, th)
		if e != api.OK {
			t.Fatalf("Blocks(%d): error %d", th, e)
		}
		free, posted := map[uint64]int{}, map[uint64]int{}
		for _, addr := range l {
			free[addr]++
		}
		for _, addr := range o {
			posted[addr]++
		}
		h, _ := s.Heap(th)
		var pages []*seg.Owned
		for _, g := range h.Segs() {
			pages = append(pages, g.Pages()...)
		}
		in := 0
		for _, p := range pages {
			if !parted(p, free, posted, w.Live()) {
				t.Fatalf("thread %d: %+v: free %v, posted %v, live %v", th, p.Run(), l, o, w.Live())
			}
			for _, addr := range slices.Concat(l, o) {
				if p.Run().In(addr) {
					in++
				}
			}
		}
		if in != len(l)+len(o) {
			t.Fatalf("thread %d: %v, %v: some are in no page", th, l, o)
		}
	}
	if r, _ := audit.Look(w); 1+r.Segs+r.Nobody+r.Huge != len(s.Arena().Regions()) {
		t.Fatalf("Look: %+v; regions %v", r, s.Arena().Regions())
	}
}

// P18.2, P18.4: in whatever turns steps come, what is told is what there is, and nothing is ever wrong; rows are told, and at rest all is zero.
func TestNothingIsEverWrong(t *testing.T) {
	for i, x := range []struct{ segs, limit, threads, turns int }{{2, 1, 1, 100}, {2, 2, 2, 1500}, {4, 4, 3, 2500}, {6, 5, 8, 3000}, {16, 14, 8, 3000}, {64, 64, 8, 2500}} {
		for round := range 3 {
			r := rand.New(rand.NewPCG(uint64(i), uint64(round)))
			b := newBench(t, x.segs, x.limit, x.threads)
			for n := range x.turns {
				anyTurn(r, b.World)
				b.is(counts(b.World))
				rest := len(b.Live()) == 0 && len(trace.Busy(b.World)) == 0 && b.Sys().Arena().Given() == 1
				if audit.Rest(b.World) != rest {
					t.Fatalf("Rest: wanted %t", rest)
				}
				if rest {
					b.is(audit.Report{})
				}
				if n%50 == 0 {
					trace.Drain(b.World, 100000)
					whole(t, b.World)
				}
			}
		}
	}
}

// P4: with no block live, and no call, what was posted gathered by all that are up, a Collect of all by one leaves nothing: that is rest.
func TestCollectOfAllIsRest(t *testing.T) {
	for round := range 60 {
		r := rand.New(rand.NewPCG(4, uint64(round)))
		threads, segs := 1+r.IntN(7), 2+r.IntN(20)
		w, _ := world.New(segs, 2+r.IntN(segs-1), threads+1)
		b := &bench{t, w}
		w.Start(threads) // it never exits
		for th := range threads {
			w.Start(th)
		}
		for range 400 {
			if r.IntN(3) == 0 {
				w.Call(r.IntN(threads), anyCall(r, w))
			}
			w.Step(r.IntN(threads))
		}
		trace.Drain(w, 100000)
		for _, x := range w.Live() {
			th := r.IntN(threads + 1)
			if !w.Up(th) {
				th = threads
			}
			b.free(th, x.Addr)
		}
		for th := range threads + 1 {
			if w.Up(th) {
				b.does(th, api.Call{Kind: api.Collect})
			}
		}
		b.does(threads, api.Call{Kind: api.Collect, Force: true})
		b.is(audit.Report{})
		if !audit.Rest(w) {
			t.Fatalf("round %d: no rest: %v", round, w.Sys().Arena().Regions())
		}
	}
}

// Whoever looks changes nothing, and asks no shared word: a world that is looked at behind each step is as one that never is.
func TestLookingChangesNothing(t *testing.T) {
	for i, x := range []struct{ segs, limit, threads int }{{2, 2, 2}, {5, 4, 3}, {12, 12, 8}} {
		for round := range 4 {
			r, o := rand.New(rand.NewPCG(uint64(i), uint64(round))), rand.New(rand.NewPCG(uint64(i), uint64(round)))
			b, by := newBench(t, x.segs, x.limit, x.threads), newBench(t, x.segs, x.limit, x.threads)
			for range 400 {
				anyTurn(r, b.World)
				was := stateOf(b.World)
				lookAtAll(b.World)
				if !was.same(stateOf(b.World)) {
					t.Fatal("it changed")
				}
				anyTurn(o, by.World)
				if !was.same(stateOf(by.World)) {
					t.Fatal("it is another one")
				}
			}
		}
	}
}

// As many blocks, pages and segments as there can be.
func TestFullWorld(t *testing.T) {
	b := newBench(t, 64, 64, 8)
	for th, refused := 0, 0; refused < 8; th = (th + 1) % 8 {
		b.begins(th, api.Call{Kind: api.Malloc, N: 16})
		if b.ends(th).Err == api.OK {
			refused = 0
		} else {
			refused++
		}
	}
	b.is(audit.Report{Segs: 63, Pages: 63 * 15, Used: 63 * 15 * 64})
	for i, x := range b.Live() {
		p, _ := geo.At(x.Addr)
		b.free((i+p.Seg)%8, x.Addr)
	}
	r, _ := audit.Look(b.World)
	if r.Wrong != 0 || r.Posted == 0 || r.Used != r.Posted {
		t.Fatalf("%+v", r)
	}
	whole(t, b.World)
	for th := range 8 {
		b.does(th, api.Call{Kind: api.Collect})
	}
	if !audit.Rest(b.World) {
		t.Fatal("no rest")
	}
}
