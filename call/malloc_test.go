package call_test

import (
	"bytes"
	"math"
	"testing"

	"allotment/api"
)

// Malloc: refuse is over with ErrArg, in one step, and nothing is changed.
func TestRefuse(t *testing.T) {
	w := newTwin(t, 2, 2)
	for _, n := range []uint64{api.MaxSize + 1, api.MaxSize + 16384, 1 << 32, 1<<32 + 16, 1 << 40, 1 << 63, math.MaxUint64} {
		w.noMalloc(0, n, "refuse", api.ErrArg)
	}
	for _, align := range noAligns() {
		for _, n := range []uint64{0, 16, 1024, 2000, 15360, 20000, api.MaxSize} {
			w.runs("malloc", w.begins(3, api.Call{Kind: api.Malloc, N: n, Align: align, Zero: true}), "refuse", 0, api.ErrArg)
		}
	}
	w.nobody(1)
	if n := w.s.Arena().Refused(); n != 0 {
		t.Errorf("refused %d", n)
	}
	w.malloc(0, 16, "local fresh look grow", 17408)
}

// Malloc: local is over, if a page of the class has a block; else a page is made, in a segment that the heap has, if there is room, or in a new one.
func TestLocalFreshGrow(t *testing.T) {
	w := newTwin(t, 4, 4)
	w.malloc(0, 16, "local fresh look grow", 17408)
	w.mallocs(0, 16, 17424, 17440, 17456, 17472, 17488)
	w.malloc(0, 17, "local fresh", 18432)
	w.malloc(0, 0, "local", 17504)
	w.malloc(0, 1025, "fresh", 19456)
	w.malloc(0, 1025, "fresh", 21504)
	w.malloc(0, 1024, "local fresh", 23552)
	w.malloc(0, 1000, "local", 24576)
	w.malloc(0, 9*1024, "fresh look grow", 33792)
	w.malloc(0, 5*1024, "fresh", 27648)
	w.malloc(0, 6*1024, "fresh", 43008)
	w.malloc(0, 1025, "fresh look grow", 50176)
	w.has(0, []int{1, 2, 3}, 17408, 18432, 23552, 19456, 21504, 33792, 27648, 43008, 50176)
	w.noMalloc(1, 16, "local fresh look grow", api.ErrFull)
	w.noMalloc(1, 1025, "fresh look grow", api.ErrFull)
	w.noMalloc(0, 15*1024, "fresh look grow", api.ErrFull)
	w.has(1, nil)
	w.nobody(4)
	if n := w.s.Arena().Refused(); n != 3 {
		t.Errorf("refused %d", n)
	}
}

// Malloc: each class's blocks stand side by side, at a multiple of the alignment; Align 0 counts as 1.
func TestAlign(t *testing.T) {
	for n := uint64(0); n <= 2100; n += 7 {
		w := newTwin(t, 3, 3)
		for _, align := range []uint64{0, 1, 2, 4, 8, 16, 32, 64, 128, 256, 512, 1024} {
			for range 2 {
				r := w.begins(1, api.Call{Kind: api.Malloc, N: n, Align: align})
				for !w.steps(r) {
				}
				a := r.f.Result()
				if a.Err != api.OK && w.s.Arena().Refused() > 0 {
					continue
				}
				if usable, e := w.s.Usable(a.Addr); a.Err != api.OK || a.Addr%max(align, 1) != 0 || usable < n || e != api.OK {
					t.Fatalf("malloc of %d, at multiples of %d: %+v, usable %d", n, align, a, usable)
				}
			}
		}
	}
}

// Malloc: huge is the arena's Reserve, its error is the answer.
func TestHuge(t *testing.T) {
	w := newTwin(t, 6, 6)
	a := w.malloc(0, 15361, "huge", 16384)
	b := w.malloc(1, 32769, "huge", 32768)
	w.usables(a, b, b+16384, b+32768)
	w.noMalloc(0, 16385, "huge", api.ErrFull)
	w.noMalloc(0, 6*16384, "huge", api.ErrFull)
	if n := w.s.Arena().Refused(); n != 2 {
		t.Errorf("refused %d", n)
	}
	w.noMalloc(0, 6*16384+1, "huge", api.ErrArg)
	w.noMalloc(0, api.MaxSize, "huge", api.ErrArg)
	if n := w.s.Arena().Refused(); n != 2 {
		t.Errorf("refused %d", n)
	}
	w.nobody(5)
	for th := range 8 {
		w.has(th, nil)
	}
	w.malloc(2, 16384, "huge", 81920)
	w.noMalloc(2, 16384, "huge", api.ErrFull)
	w.free(0, b+16384, "find", api.ErrNone)
	w.free(0, b+1, "find", api.ErrNone)
	w.free(7, b, "find", api.OK)
	w.free(7, b, "find", api.ErrNone)
	w.malloc(2, 16384, "huge", 32768)
	w.malloc(2, 2*16384, "huge", 49152)
	w.noMalloc(3, 16, "local fresh look grow", api.ErrFull)
	w.free(3, a, "find", api.OK)
	w.malloc(3, 16, "local fresh look grow", 17408)
	w.free(3, a, "find", api.ErrNone)

	g := newTwin(t, 64, 64)
	g.noMalloc(0, api.MaxSize, "huge", api.ErrFull)
	g.malloc(0, api.MaxSize-16384, "huge", 16384)
	g.usables(16384, 32768)
}

// Malloc: the limit, and what the arena was told, refuse a block; then all is as it was.
func TestNoMemory(t *testing.T) {
	w := newTwin(t, 5, 2)
	w.noMalloc(0, 20000, "huge", api.ErrFull)
	w.refuses(true, false, true, true)
	w.noMalloc(0, 16, "local fresh look grow", api.ErrFull)
	w.has(0, nil)
	w.nobody(1)
	a := w.malloc(0, 16, "local fresh look grow", 17408)
	w.noMalloc(0, 15361, "huge", api.ErrFull)
	w.noMalloc(1, 1025, "fresh look grow", api.ErrFull)
	w.mallocs(0, 16, 17424)
	w.free(0, 17424, "find", api.OK)
	w.free(0, a, "find", api.OK)
	w.nobody(1)
	w.malloc(1, 1025, "fresh look grow", 17408)
	w.noMalloc(0, 1025, "fresh look grow", api.ErrFull)
	if n := w.s.Arena().Refused(); n != 5 {
		t.Errorf("refused %d", n)
	}
}

// Malloc: gather of the class's pages, as they were when none had a block; if one got any, a block of it, else fresh behind the last one.
func TestGather(t *testing.T) {
	w := newTwin(t, 4, 4)
	w.malloc(0, 256, "local fresh look grow", 17408)
	w.mallocs(0, 256, 17664, 17920, 18176)
	w.malloc(0, 256, "local gather fresh", 18432)
	w.mallocs(0, 256, 18688, 18944, 19200)
	w.malloc(0, 32, "local fresh", 19456) // a page of another class is none of these
	w.posts(1, 17664)
	w.malloc(0, 256, "local gather", 17664)
	w.has(0, []int{1}, 19456, 17408, 18432)
	w.posts(2, 19200)
	w.malloc(0, 256, "local gather", 19200) // the other one was full first, once the first one was asked again
	w.posts(1, 18688, 18944)
	w.posts(2, 18432)
	w.malloc(0, 256, "local gather gather", 18432) // the last one that was posted is the first one of what is gathered
	w.mallocs(0, 256, 18944, 18688)
	w.malloc(0, 256, "local gather gather fresh", 20480)
	w.has(0, []int{1}, 19456, 20480, 17408, 18432)
}

// Malloc: a page of which all blocks were posted goes when it is gathered, and so does a segment of none but this; then there is no block by that, and the next one is gathered.
func TestGatherAll(t *testing.T) {
	w := newTwin(t, 4, 4)
	w.malloc(0, 256, "local fresh look grow", 17408)
	w.mallocs(0, 256, 17664, 17920, 18176)
	w.posts(1, 17664, 17920, 17408, 18176)
	w.nobody(2)
	w.malloc(0, 256, "local gather fresh look grow", 17408)
	w.nobody(2)
	w.has(0, []int{1}, 17408)
	w.mallocs(0, 256, 17664, 17920, 18176)
	w.malloc(0, 256, "local gather fresh", 18432)
	w.mallocs(0, 256, 18688, 18944, 19200)
	w.posts(1, 17664, 17920, 17408, 18176)
	w.posts(2, 18944)
	w.malloc(0, 256, "local gather gather", 18944)
	w.has(0, []int{1}, 18432)
	w.malloc(0, 256, "local gather fresh", 17408)
}

// Malloc: a page whose posted blocks were written over gives none; what is asked goes on behind it.
func TestGatherWritten(t *testing.T) {
	for _, link := range [][]byte{{1, 0, 16, 0, 0, 0, 0, 0}, {0, 0, 0, 0, 0, 0, 0, 255}, {0, 68, 0, 0, 0, 0, 0, 0}} {
		w := newTwin(t, 4, 4)
		w.malloc(0, 256, "local fresh look grow", 17408)
		w.mallocs(0, 256, 17664, 17920, 18176)
		w.posts(1, 17408)
		w.writes(17408, link...)
		w.malloc(0, 256, "local gather fresh", 18432)
		w.mallocs(0, 256, 18688, 18944, 19200)
		w.posts(1, 18688)
		w.malloc(0, 256, "local gather gather", 18688)
	}
}

// Malloc: a list that was written over gives no block by Local, but another page may.
func TestLocalWritten(t *testing.T) {
	w := newTwin(t, 4, 4)
	w.malloc(0, 16, "local fresh look grow", 17408)
	w.writes(17424, 0, 0, 0, 0, 0, 0, 0, 255) // the next free one's link
	w.mallocs(0, 16, 17424)
	w.malloc(0, 16, "local gather fresh", 18432)
	w.malloc(0, 16, "local gather gather fresh", 19456)
}

// Malloc: behind a page that gave none Local isn't asked again, even if another call of the thread gave a block back meanwhile.
func TestGatherNone(t *testing.T) {
	w := newTwin(t, 4, 4)
	w.malloc(0, 256, "local fresh look grow", 17408)
	w.mallocs(0, 256, 17664, 17920, 18176)
	w.malloc(0, 256, "local gather fresh", 18432)
	w.mallocs(0, 256, 18688, 18944, 19200)
	r := w.begins(0, api.Call{Kind: api.Malloc, N: 256})
	w.goes(r, "local")
	w.free(0, 17664, "find", api.OK)
	w.runs("malloc", r, "gather gather fresh", 19456, api.OK)
	w.mallocs(0, 256, 17664, 19712)
}

// Malloc: of one block alone neither local nor gather is a state.
func TestAlone(t *testing.T) {
	w := newTwin(t, 4, 4)
	w.malloc(0, 3*1024, "fresh look grow", 17408)
	w.malloc(0, 3*1024, "fresh", 20480)
	w.posts(1, 17408)
	w.malloc(0, 3*1024, "fresh", 23552) // what others posted isn't asked for
	w.malloc(0, 6*1024, "fresh", 26624)
	w.malloc(0, 3*1024, "fresh look grow", 33792)
	w.has(0, []int{1, 2}, 17408, 20480, 23552, 26624, 33792)
	w.collect(0, "gather gather gather gather gather")
	w.malloc(0, 3*1024, "fresh", 17408)
}

// Malloc: look, take, own and sweep; then local, or of one block alone fresh.
func TestAdopt(t *testing.T) {
	w := newTwin(t, 4, 4)
	w.malloc(0, 16, "local fresh look grow", 17408)
	w.malloc(0, 256, "local fresh", 18432)
	w.mallocs(0, 256, 18688, 18944, 19200)
	w.malloc(0, 2000, "fresh", 19456)
	w.exit(0, "gather gather gather disown top put")
	w.has(0, nil)
	w.nobody(2, 1)
	w.malloc(1, 32, "local fresh look take own sweep sweep sweep local fresh", 21504)
	w.has(1, []int{1}, 17408, 21504, 18432, 19456)
	w.nobody(2)
	w.mallocs(1, 16, 17424)
	w.exit(1, "gather gather gather gather disown top put")
	w.malloc(2, 16, "local fresh look take own sweep sweep sweep sweep local", 17440)
	w.exit(2, "gather gather gather gather disown top put")
	w.posts(0, 18944, 19200)
	w.malloc(3, 256, "local fresh look take own sweep sweep sweep sweep local", 19200)
	w.exit(3, "gather gather gather gather disown top put")
	w.malloc(4, 1025, "fresh look take own sweep sweep sweep sweep fresh", 22528)
	w.exit(4, "gather gather gather gather gather disown top put")
	w.malloc(5, 1024, "local fresh look take own sweep sweep sweep sweep sweep local fresh", 24576)
	w.has(5, []int{1}, 17408, 21504, 18432, 24576, 19456, 22528)
	w.nobody(2)
}

// Malloc: of several segments that nobody has one behind the other is adopted, till there is room; behind the last one grow.
func TestAdoptMore(t *testing.T) {
	w := newTwin(t, 6, 6)
	w.malloc(0, 14*1024, "fresh look grow", 17408)
	w.malloc(0, 13*1024, "fresh look grow", 33792)
	w.malloc(0, 12*1024, "fresh look grow", 50176)
	w.exit(0, "gather gather gather disown top put disown top put disown top put")
	w.nobody(4, 3, 2, 1)
	w.malloc(1, 2*1024, "fresh look take own sweep fresh", 62464)
	w.nobody(4, 2, 1)
	w.has(1, []int{3}, 50176, 62464)
	w.malloc(1, 15*1024, "fresh look take own sweep fresh look take own sweep fresh look grow", 66560)
	w.has(1, []int{3, 2, 1, 4}, 50176, 62464, 33792, 17408, 66560)
	w.nobody(5)
	w.malloc(1, 16, "local fresh", 64512)
	w.malloc(1, 2*1024, "fresh", 47104)
	w.malloc(1, 17, "local fresh", 31744)
}

// Malloc: what was posted while nobody had the segment is gathered by sweep; a page, and a segment, of which nothing is used goes by that.
func TestSweepAll(t *testing.T) {
	w := newTwin(t, 4, 4)
	w.malloc(0, 16, "local fresh look grow", 17408)
	w.malloc(0, 2000, "fresh", 18432)
	w.exit(0, "gather gather disown top put")
	w.posts(1, 17408, 18432)
	w.nobody(2, 1)
	w.malloc(1, 16, "local fresh look take own sweep sweep local fresh look grow", 17408)
	w.nobody(2)
	w.exit(1, "gather disown top put")
	w.posts(2, 17408)
	w.malloc(2, 2000, "fresh look take own sweep fresh look grow", 17408)
	w.has(2, []int{1}, 17408)
	w.nobody(2)
}

// Malloc: a segment without pages is owned, too; there is nothing to sweep.
func TestAdoptNoPages(t *testing.T) {
	for _, n := range []uint64{16, 2000} {
		w := newTwin(t, 4, 4)
		for _, h := range []int{0, 1} {
			mine, _ := w.s.Heap(h)
			if mine.Grow() != api.OK || w.w.heaps[h].Grow() != api.OK {
				t.Fatal("Grow")
			}
		}
		w.exit(0, "disown top put")
		w.exit(1, "disown top put")
		w.nobody(3, 2, 1)
		states := map[uint64]string{16: "local fresh look take own local fresh", 2000: "fresh look take own fresh"}
		w.malloc(3, n, states[n], 33792)
		w.has(3, []int{2}, 33792)
		w.force(4, "look take own look")
		w.has(4, []int{1})
		w.collect(4, "rest")
		w.exit(4, "disown top put")
		w.exit(4, "rest")
	}
}

// Malloc: who takes late looks again; who comes last of all finds none, and grows.
func TestTakeLate(t *testing.T) {
	w := newTwin(t, 6, 6)
	w.malloc(0, 2000, "fresh look grow", 17408)
	w.malloc(0, 15*1024, "fresh look grow", 33792)
	w.exit(0, "gather gather disown top put disown top put")
	a := w.begins(1, api.Call{Kind: api.Malloc, N: 3000})
	b := w.begins(2, api.Call{Kind: api.Malloc, N: 3000})
	c := w.begins(3, api.Call{Kind: api.Collect, Force: true})
	w.goes(a, "fresh look")
	w.goes(b, "fresh look")
	w.goes(c, "look")
	w.goes(a, "take")
	w.nobody(3, 1)
	w.goes(b, "take")
	w.goes(c, "take")
	w.goes(b, "look")
	w.goes(c, "look take")
	w.nobody(3)
	w.goes(b, "take")
	w.runs("late", b, "look grow", 50176, api.OK)
	w.runs("not late", a, "own sweep fresh look grow", 66560, api.OK)
	w.runs("late and not late", c, "own sweep look", 0, api.OK)
	w.has(1, []int{2, 4}, 33792, 66560)
	w.has(2, []int{3}, 50176)
	w.has(3, []int{1}, 17408)
}

// Malloc: between look and take the segment that was seen may be taken and be there again: its tag tells.
func TestTakeAgain(t *testing.T) {
	w := newTwin(t, 6, 6)
	w.malloc(0, 2000, "fresh look grow", 17408)
	w.exit(0, "gather disown top put")
	a := w.begins(1, api.Call{Kind: api.Malloc, N: 3000})
	w.goes(a, "fresh look")
	w.force(2, "look take own sweep look")
	w.malloc(2, 5000, "fresh", 19456)
	w.exit(2, "gather gather disown top put")
	w.nobody(2, 1)
	w.goes(a, "take")
	w.runs("late", a, "look take own sweep sweep fresh", 24576, api.OK)
}

// Malloc, Zero: the usable bytes are 0 by the step that the call is over by, whatever was there; but for these, all is as it is without it.
func TestZero(t *testing.T) {
	for _, n := range []uint64{0, 1, 16, 17, 40, 200, 1000, 1025, 4000, 15360, 15361, 20000} {
		w, o := newTwin(t, 4, 4), newTwin(t, 4, 4)
		both := func(f func(*twin)) {
			f(w)
			f(o)
		}
		both(func(w *twin) { w.writes(16384, bytes.Repeat([]byte{0xab}, 3*16384)...) })
		for range 3 {
			a := w.begins(0, api.Call{Kind: api.Malloc, N: n, Zero: true})
			b := o.begins(0, api.Call{Kind: api.Malloc, N: n})
			for !b.f.Done() {
				want, _ := o.s.Mem().Get(0, o.s.Mem().Size())
				if got, _ := w.s.Mem().Get(0, w.s.Mem().Size()); !bytes.Equal(got, want) {
					t.Fatalf("malloc of %d, %s: memory differs", n, b.f.State())
				}
				both(func(x *twin) { x.steps(x.calls[0]) })
			}
			addr := b.f.Result().Addr
			usable, e := o.s.Usable(addr)
			if a.f.Result() != b.f.Result() || usable < n || e != api.OK {
				t.Fatalf("malloc of %d: %+v, %+v, usable %d", n, a.f.Result(), b.f.Result(), usable)
			}
			if b, _ := w.s.Mem().Get(addr, usable); !bytes.Equal(b, make([]byte, usable)) {
				t.Fatalf("malloc of %d: %v", n, b)
			}
			both(func(x *twin) {
				x.writes(addr, bytes.Repeat([]byte{0xcd}, int(usable))...)
				x.free(0, addr, "find", api.OK)
			})
		}
	}
	w := newTwin(t, 2, 2)
	w.writes(17408, bytes.Repeat([]byte{0xab}, 15360)...)
	w.malloc(0, 15360, "fresh look grow", 17408)
	if b, _ := w.s.Mem().Get(17408+8, 15360-8); bytes.Count(b, []byte{0xab}) != len(b) { // all but what was its link
		t.Error("noughts that nobody asked for")
	}
}

// Malloc, Zero: if there is no memory, nothing is written.
func TestZeroRefused(t *testing.T) {
	for _, n := range []uint64{16, 2000, 20000, api.MaxSize, api.MaxSize + 1} {
		w := newTwin(t, 4, 1)
		w.writes(0, bytes.Repeat([]byte{0xab}, 4*16384)...)
		r := w.begins(0, api.Call{Kind: api.Malloc, N: n, Zero: true})
		for !w.steps(r) {
		}
		b, _ := w.s.Mem().Get(0, w.s.Mem().Size())
		if r.f.Result().Err == api.OK || bytes.Count(b, []byte{0xab}) != len(b) {
			t.Errorf("malloc of %d: %+v", n, r.f.Result())
		}
	}
}
