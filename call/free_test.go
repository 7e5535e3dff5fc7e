package call_test

import (
	"bytes"
	"testing"

	"allotment/api"
	"allotment/stack"
)

// Free: of a thread's own block one step; the page, and the segment, of which nothing is used any more go.
func TestFreeOwn(t *testing.T) {
	w := newTwin(t, 4, 4)
	w.malloc(5, 16, "local fresh look grow", 17408)
	w.mallocs(5, 16, 17424, 17440)
	w.malloc(5, 5000, "fresh", 18432)
	w.free(5, 17424, "find", api.OK)
	w.has(5, []int{1}, 17408, 18432)
	w.free(5, 18432, "find", api.OK)
	w.has(5, []int{1}, 17408)
	w.free(5, 17440, "find", api.OK)
	w.nobody(2)
	w.free(5, 17408, "find", api.OK)
	w.has(5, nil)
	w.nobody(1)
	w.free(5, 17408, "find", api.ErrNone)
}

// Free: of a full page it is woken.
func TestFreeWakes(t *testing.T) {
	w := newTwin(t, 4, 4)
	w.malloc(0, 256, "local fresh look grow", 17408)
	w.mallocs(0, 256, 17664, 17920, 18176)
	w.malloc(0, 256, "local gather fresh", 18432)
	w.free(0, 17920, "find", api.OK)
	w.has(0, []int{1}, 18432, 17408)
	w.mallocs(0, 256, 18688, 18944, 19200, 17920)
}

// Free: of another thread's block find, head, post; it is used till it is gathered.
func TestFreePosts(t *testing.T) {
	w := newTwin(t, 4, 4)
	w.malloc(0, 16, "local fresh look grow", 17408)
	w.mallocs(0, 16, 17424, 17440)
	w.malloc(0, 2000, "fresh", 18432)
	for th := 1; th < 8; th++ {
		r := w.begins(th, api.Call{Kind: api.Free, Addr: 17408})
		w.goes(r, "find head")
	}
	w.posts(7, 17424)
	w.posts(3, 18432)
	h, _ := w.s.Heap(0)
	p, _ := h.Segs()[0].Find(17408)
	if _, _, posted, e := p.Lists(); e != api.OK || p.Used() != 3 || len(posted) != 1 || posted[0] != 17424 {
		t.Errorf("posted %v, used %d, error %d", posted, p.Used(), e)
	}
	w.usables(17424, 18432)
	w.has(0, []int{1}, 17408, 18432)
	w.collect(0, "gather gather")
	w.has(0, []int{1}, 17408)
	if p.Used() != 2 {
		t.Errorf("used %d", p.Used())
	}
}

// Free: who posts late looks at the head again, as often as he was overtaken, by others that post, or by who gathers.
func TestPostLate(t *testing.T) {
	w := newTwin(t, 4, 4)
	w.malloc(0, 16, "local fresh look grow", 17408)
	w.mallocs(0, 16, 17424, 17440, 17456)
	a := w.begins(1, api.Call{Kind: api.Free, Addr: 17408})
	b := w.begins(2, api.Call{Kind: api.Free, Addr: 17424})
	w.goes(a, "find head")
	w.goes(b, "find head")
	w.posts(3, 17440)
	w.goes(a, "post")
	w.goes(b, "post head")
	w.goes(a, "head")
	w.collect(0, "gather")
	w.goes(b, "post")
	w.goes(a, "post head")
	w.runs("not late", a, "post", 0, api.OK)
	w.runs("late", b, "head post", 0, api.OK)
	h, _ := w.s.Heap(0)
	p, _ := h.Segs()[0].Find(17408)
	if _, _, posted, _ := p.Lists(); len(posted) != 2 || posted[0] != 17424 || posted[1] != 17408 {
		t.Errorf("posted %v", posted)
	}
	w.collect(0, "gather")
	w.free(0, 17456, "find", api.OK)
	w.nobody(1)
}

// Free: of a block of a segment that nobody has, and of one on its way, too, head and post.
func TestFreeOnTheWay(t *testing.T) {
	w := newTwin(t, 4, 4)
	w.malloc(0, 16, "local fresh look grow", 17408)
	w.mallocs(0, 16, 17424, 17440, 17456, 17472, 17488, 17504, 17520)
	w.posts(1, 17520)
	out := w.begins(0, api.Call{Kind: api.Exit})
	w.posts(1, 17408)
	w.goes(out, "gather")
	w.posts(1, 17424)
	w.goes(out, "disown")
	w.posts(1, 17440)
	w.goes(out, "top")
	w.posts(1, 17456)
	w.runs("exit", out, "put", 0, api.OK)
	w.posts(1, 17472)
	in := w.begins(2, api.Call{Kind: api.Collect, Force: true})
	w.goes(in, "look take")
	w.posts(1, 17488)
	w.goes(in, "own")
	w.posts(1, 17504)
	w.has(2, []int{1}, 17408)
	w.runs("collect", in, "sweep look", 0, api.OK)
	w.nobody(1)
	w.has(2, nil)
}

// Free: it is the owner's word that tells whose a block is, when it is asked: who was told that it isn't his posts, even if it is, meanwhile.
func TestFreeAdopted(t *testing.T) {
	w := newTwin(t, 4, 4)
	w.malloc(0, 16, "local fresh look grow", 17408)
	w.mallocs(0, 16, 17424, 17440)
	late := w.begins(1, api.Call{Kind: api.Free, Addr: 17408})
	w.goes(late, "find")
	w.exit(0, "gather disown top put")
	w.force(2, "look take own sweep look")
	w.free(2, 17424, "find", api.OK)
	w.posts(0, 17440) // its own ones aren't any more
	w.goes(late, "head")
	w.runs("late", late, "post", 0, api.OK)
	w.has(2, []int{1}, 17408)
	w.collect(2, "gather")
	w.nobody(1)
}

// Free: ErrNone of no block's page, in one step; of a page, the page's own error.
func TestFreeWrong(t *testing.T) {
	w := newTwin(t, 4, 4)
	w.malloc(0, 48, "local fresh look grow", 17408)
	w.mallocs(0, 48, 17456, 17504)
	w.malloc(0, 2000, "fresh", 18432)
	w.malloc(3, 16384, "huge", 32768)
	for _, addr := range append(nowhere(), 16384, 20480, 31744, 49152, 49152+1024, 32769, 32768+1024, 32768+16368) {
		for th := range 3 {
			w.free(th, addr, "find", api.ErrNone)
		}
	}
	for _, addr := range []uint64{17409, 17416, 17424, 17455, 17600, 17408 + 4*48, 17408 + 20*48, 17408 + 21*48 - 1, 18433, 19456, 20479} {
		w.free(0, addr, "find", api.ErrNone)
		w.free(1, addr, "find head post", api.ErrNone)
	}
	for _, addr := range []uint64{17408 + 21*48, 17408 + 21*48 + 8, 18431} {
		w.free(0, addr, "find", api.ErrRange)
		w.free(1, addr, "find head post", api.ErrRange)
	}
	w.has(0, []int{1}, 17408, 18432)
	w.nobody(3)
	for _, addr := range []uint64{17408, 17456, 17504} {
		w.free(0, addr, "find", api.OK)
	}
	w.free(0, 17408, "find", api.ErrNone)
	w.posts(1, 18432)
	w.collect(0, "gather")
	w.free(1, 18432, "find", api.ErrNone)
	w.nobody(2)
	w.free(0, 32768, "find", api.OK)
	w.nobody(1)
}

// Free: a huge block is given back by whoever does, in one step, and no shared word is asked.
func TestFreeHuge(t *testing.T) {
	w := newTwin(t, 8, 8)
	w.malloc(0, 40000, "huge", 16384)
	w.malloc(0, 16384, "huge", 65536)
	w.malloc(0, 16384, "huge", 81920)
	w.free(1, 65536, "find", api.OK)
	w.free(0, 65536, "find", api.ErrNone)
	w.usables(65536, 81920, 16384)
	w.nobody(5)
	w.malloc(2, 16, "local fresh look grow", 66560)
	w.free(0, 65536, "find", api.ErrNone)
	w.usables(65536, 66560)
	w.free(2, 16384, "find", api.OK)
	w.free(2, 81920, "find", api.OK)
	w.nobody(2)
	w.free(2, 66560, "find", api.OK)
	w.nobody(1)
}

// Realloc: fit is over with the block, if it would be as great; of no block ErrNone, and of no plan ErrArg.
func TestFit(t *testing.T) {
	w := newTwin(t, 5, 5)
	a := w.malloc(0, 40, "local fresh look grow", 17408)
	b := w.malloc(0, 2000, "fresh", 18432)
	c := w.malloc(0, 20000, "huge", 32768)
	for _, x := range []struct{ addr, low, high uint64 }{{a, 33, 48}, {b, 1025, 2048}, {c, 16385, 32768}} {
		for _, n := range []uint64{x.low, x.low + 1, x.high - 1, x.high} {
			w.realloc(0, x.addr, n, "fit", x.addr, api.OK)
			w.realloc(7, x.addr, n, "fit", x.addr, api.OK)
		}
	}
	for _, n := range []uint64{api.MaxSize + 1, 1 << 32, 1<<32 + 48, 1 << 63, 1<<63 + 48, 1<<64 - 1} {
		for _, addr := range []uint64{a, b, c} {
			w.realloc(0, addr, n, "fit", 0, api.ErrArg)
		}
		w.realloc(0, 16384, n, "fit", 0, api.ErrNone)
	}
	for _, addr := range append(nowhere(), 16384, 17409, 17416, 17600, 18416, 18431, 18433, 19456, 20480, 49152, 32769, 33792) {
		for _, n := range []uint64{0, 16, 48, 2000, 20000} {
			w.realloc(0, addr, n, "fit", 0, api.ErrNone)
		}
	}
	for _, align := range append(noAligns(), 64, 1024) { // Align is none of a Realloc's
		w.runs("realloc", w.begins(0, api.Call{Kind: api.Realloc, Addr: a, N: 48, Align: align}), "fit", a, api.OK)
	}
	w.nobody(4)
	w.has(0, []int{1}, 17408, 18432)
	al := w.begins(1, api.Call{Kind: api.Malloc, N: 17, Align: 64})
	w.runs("malloc", al, "local fresh look grow", 66560, api.OK)
	w.realloc(1, 66560, 64, "fit", 66560, api.OK)
	w.realloc(1, 66560, 17, "fit local fresh copy find", 67584, api.OK)
}

// bytesOf is n bytes that tell where they are.
func bytesOf(n int) []byte {
	b := make([]byte, n)
	for i := range b {
		b[i] = byte(i*7 + i/256*13 + 1)
	}
	return b
}

// Realloc: a Malloc of N, copy of the bytes that both have, then a Free; the states are those of that.
func TestRealloc(t *testing.T) {
	w := newTwin(t, 8, 8)
	holds := func(addr uint64, n int) {
		t.Helper()
		if b, _ := w.s.Mem().Get(addr, uint64(n)); !bytes.Equal(b, bytesOf(n)) {
			t.Fatalf("at %d: %v", addr, b)
		}
	}
	a := w.malloc(0, 16, "local fresh look grow", 17408)
	w.writes(a, bytesOf(16)...)
	w.realloc(0, a, 17, "fit local fresh copy find", 18432, api.OK)
	holds(18432, 16)
	w.has(0, []int{1}, 18432)
	w.writes(18432, bytesOf(32)...)
	w.realloc(0, 18432, 2500, "fit fresh copy find", 19456, api.OK)
	holds(19456, 32)
	w.writes(19456, bytesOf(3072)...)
	w.realloc(0, 19456, 14*1024, "fit fresh look grow copy find", 33792, api.OK)
	holds(33792, 3072)
	w.nobody(2)
	w.writes(33792, bytesOf(14*1024)...)
	w.realloc(0, 33792, 40000, "fit huge copy find", 49152, api.OK)
	holds(49152, 14*1024)
	w.nobody(4)
	w.writes(49152, bytesOf(49152)...)
	w.realloc(0, 49152, 20000, "fit huge copy find", 16384, api.OK)
	holds(16384, 20000)
	w.nobody(3)
	w.realloc(0, 16384, 2000, "fit fresh look grow copy find", 50176, api.OK)
	holds(50176, 2000)
	w.realloc(0, 50176, 100, "fit local fresh copy find", 52224, api.OK)
	holds(52224, 100)
	w.has(0, []int{3}, 52224)
	w.realloc(0, 52224, 7, "fit local fresh copy find", 50176, api.OK)
	holds(50176, 7)
	w.realloc(0, 50176, 100, "fit local fresh copy find", 51200, api.OK)
	holds(51200, 7)
	w.realloc(0, 51200, 0, "fit local fresh copy find", 50176, api.OK)
	w.realloc(0, 50176, 16, "fit", 50176, api.OK)
}

// Realloc: no byte beyond what both have is copied.
func TestReallocBytes(t *testing.T) {
	for _, x := range [][2]uint64{{16, 20}, {20, 16}, {1000, 10}, {10, 1000}, {3000, 1}, {1, 3000}, {20000, 500}, {500, 20000}, {16384, 15361 + 16384}, {64, 0}, {0, 64}} {
		w := newTwin(t, 6, 6)
		w.writes(16384, bytes.Repeat([]byte{0xab}, 5*16384)...)
		r := w.begins(0, api.Call{Kind: api.Malloc, N: x[0]})
		for !w.steps(r) {
		}
		old := r.f.Result().Addr
		had, _ := w.s.Usable(old)
		w.writes(old, bytesOf(int(had))...)
		r = w.begins(0, api.Call{Kind: api.Realloc, Addr: old, N: x[1]})
		for r.f.State() != "copy" {
			w.steps(r)
		}
		before, _ := w.s.Mem().Get(0, w.s.Mem().Size())
		w.steps(r)
		after, _ := w.s.Mem().Get(0, w.s.Mem().Size())
		for !r.f.Done() {
			w.steps(r)
		}
		to, n := r.f.Result().Addr, min(had, x[1])
		copy(before[to:], before[old:old+n])
		if !bytes.Equal(before, after) {
			t.Errorf("realloc of %d to %d", x[0], x[1])
		}
	}
}

// Realloc: Zero is none of its, nor is what it was aligned to.
func TestReallocPlain(t *testing.T) {
	w := newTwin(t, 3, 3)
	w.writes(16384, bytes.Repeat([]byte{0xab}, 2*16384)...)
	a := w.malloc(0, 16, "local fresh look grow", 17408)
	w.runs("realloc", w.begins(0, api.Call{Kind: api.Realloc, Addr: a, N: 1000, Align: 3, Zero: true, Force: true}), "fit local fresh copy find", 18432, api.OK)
	if b, _ := w.s.Mem().Get(18432+16, 1024-16); bytes.Count(b, []byte{0xab}) != len(b) {
		t.Error("noughts that nobody asked for")
	}
}

// Realloc: the Malloc's error is the answer, and the block stays as it is.
func TestReallocRefused(t *testing.T) {
	w := newTwin(t, 5, 2)
	a := w.malloc(0, 2000, "fresh look grow", 17408)
	w.writes(a, bytesOf(2048)...)
	w.realloc(0, a, 14*1024, "fit fresh look grow", 0, api.ErrFull)
	w.realloc(1, a, 16, "fit local fresh look grow", 0, api.ErrFull)
	w.realloc(0, a, 20000, "fit huge", 0, api.ErrFull)
	w.realloc(0, a, 6*16384, "fit huge", 0, api.ErrArg)
	w.realloc(0, a, api.MaxSize, "fit huge", 0, api.ErrArg)
	if b, _ := w.s.Mem().Get(a, 2048); !bytes.Equal(b, bytesOf(2048)) {
		t.Error("changed")
	}
	w.has(0, []int{1}, a)
	w.nobody(2)
	w.free(0, a, "find", api.OK)
	w.nobody(1)
}

// Realloc: of another thread's block, and of one that nobody has, the Free within it posts; late it looks again.
func TestReallocOther(t *testing.T) {
	w := newTwin(t, 6, 6)
	a := w.malloc(0, 256, "local fresh look grow", 17408)
	w.mallocs(0, 256, 17664, 17920, 18176)
	w.writes(a, bytesOf(256)...)
	w.realloc(1, a, 300, "fit local fresh look grow copy find head post", 33792, api.OK)
	if b, _ := w.s.Mem().Get(33792, 256); !bytes.Equal(b, bytesOf(256)) {
		t.Error("bytes")
	}
	r := w.begins(1, api.Call{Kind: api.Realloc, Addr: 17664, N: 300})
	w.goes(r, "fit local copy find head")
	w.posts(2, 17920)
	w.goes(r, "post")
	w.runs("late", r, "head post", 34176, api.OK)
	w.exit(0, "gather disown top put")
	w.realloc(3, 18176, 2000, "fit fresh look take own sweep fresh copy find", 18432, api.OK) // it has the old one's segment by then
	w.has(3, []int{1}, 18432)
	w.realloc(3, 33792, 2000, "fit fresh copy find head post", 20480, api.OK)
}

// Collect: gather of all pages, then it is over; without pages it rests.
func TestCollect(t *testing.T) {
	w := newTwin(t, 4, 4)
	w.collect(0, "rest")
	w.malloc(0, 16, "local fresh look grow", 17408)
	w.malloc(0, 256, "local fresh", 18432)
	w.malloc(0, 14000, "fresh look grow", 33792)
	w.malloc(0, 32, "local fresh", 19456)
	w.collect(1, "rest")
	w.collect(0, "gather gather gather gather")
	w.has(0, []int{1, 2}, 17408, 19456, 18432, 33792)
	w.posts(1, 18432, 33792)
	w.collect(0, "gather gather gather gather")
	w.has(0, []int{1}, 17408, 19456)
	w.posts(2, 19456, 17408)
	w.collect(0, "gather gather")
	w.has(0, nil)
	w.nobody(1)
	w.collect(0, "rest")
}

// Collect: what it gathers stands in the row of all pages as it was when the call began.
func TestCollectListed(t *testing.T) {
	w := newTwin(t, 4, 4)
	w.malloc(0, 16, "local fresh look grow", 17408)
	w.malloc(0, 256, "local fresh", 18432)
	none := w.begins(1, api.Call{Kind: api.Collect})
	some := w.begins(0, api.Call{Kind: api.Collect})
	out := w.begins(0, api.Call{Kind: api.Exit})
	w.malloc(1, 16, "local fresh look grow", 33792)
	w.malloc(0, 32, "local fresh", 19456)
	w.free(0, 17408, "find", api.OK)
	w.runs("collect", none, "rest", 0, api.OK)
	w.posts(1, 18432, 19456)
	w.runs("collect", some, "gather gather", 0, api.OK)
	w.has(0, []int{1}, 19456)
	w.runs("exit", out, "gather gather disown top put", 0, api.OK)
	w.nobody(3, 1)
}

// Collect of all: then look, take, own and sweep, till nobody's segments are none.
func TestForce(t *testing.T) {
	w := newTwin(t, 6, 6)
	w.force(0, "look")
	w.malloc(0, 2000, "fresh look grow", 17408)
	w.malloc(0, 14000, "fresh look grow", 33792)
	w.malloc(0, 16, "local fresh", 19456)
	w.malloc(1, 16, "local fresh look grow", 50176)
	w.exit(0, "gather gather gather disown top put disown top put")
	w.nobody(4, 2, 1)
	w.collect(2, "rest") // what nobody has is none of its
	w.force(1, "gather look take own sweep look take own sweep sweep look")
	w.has(1, []int{3, 2, 1}, 50176, 19456, 33792, 17408)
	w.nobody(4)
	w.force(2, "look")
	w.exit(1, "gather gather gather gather disown top put disown top put disown top put")
	w.nobody(4, 1, 2, 3)
	w.posts(1, 17408, 19456, 50176)
	w.force(2, "look take own sweep sweep look take own sweep look take own sweep look")
	w.has(2, []int{2}, 33792)
	w.nobody(2)
	w.free(2, 33792, "find", api.OK)
	w.nobody(1)
}

// Exit: gather, then of each segment, the first one first, disown, top and put; without any it rests.
func TestExit(t *testing.T) {
	w := newTwin(t, 6, 6)
	w.exit(0, "rest")
	w.malloc(0, 16, "local fresh look grow", 17408)
	w.posts(1, 17408)
	w.exit(0, "gather") // there is nothing left to disown
	w.nobody(1)
	w.malloc(0, 16, "local fresh look grow", 17408)
	w.malloc(0, 2000, "fresh", 18432)
	w.malloc(0, 15000, "fresh look grow", 33792)
	w.malloc(0, 15000, "fresh look grow", 50176)
	w.posts(1, 33792)
	w.nobody(4)
	r := w.begins(0, api.Call{Kind: api.Exit, Force: true})
	w.goes(r, "gather gather gather gather")
	w.nobody(3)
	w.has(0, []int{1, 3}, 17408, 18432, 50176)
	w.goes(r, "disown")
	w.has(0, []int{3}, 50176)
	w.nobody(3)
	w.goes(r, "top")
	w.nobody(3)
	w.goes(r, "put")
	w.nobody(3, 1)
	w.goes(r, "disown top")
	w.has(0, nil)
	w.runs("exit", r, "put", 0, api.OK)
	w.nobody(3, 3, 1)
	w.exit(0, "rest")
	for _, place := range []int{3, 1} {
		g := w.w.nobody[place]
		if look := *g.Owner(); g.Place() != place {
			t.Error(look)
		} else if id, _ := look.Load(); id != 0 {
			t.Errorf("segment %d: owner %d", place, id)
		}
	}
}

// Exit: who puts late looks again, and puts on whoever is on top now.
func TestPutLate(t *testing.T) {
	w := newTwin(t, 6, 6)
	w.malloc(0, 2000, "fresh look grow", 17408)
	w.malloc(1, 2000, "fresh look grow", 33792)
	w.malloc(2, 2000, "fresh look grow", 50176)
	a := w.begins(0, api.Call{Kind: api.Exit})
	b := w.begins(1, api.Call{Kind: api.Exit})
	w.goes(a, "gather disown top")
	w.goes(b, "gather disown top")
	w.exit(2, "gather disown top put")
	w.goes(a, "put")
	w.goes(b, "put top")
	w.goes(a, "top")
	w.force(3, "look take own sweep look")
	w.goes(b, "put")
	w.goes(a, "put top")
	w.nobody(4)
	w.runs("not late", a, "put", 0, api.OK)
	w.runs("late", b, "top put", 0, api.OK)
	w.nobody(4, 2, 1)
}

// places has the stack of both have a place that nobody left there.
func (w *twin) places(place int) {
	w.t.Helper()
	for _, k := range []*stack.Stack{w.s.Stack(), w.w.k} {
		m, e := k.Push(place)
		if e != api.OK {
			w.fatalf("Push(%d): error %d", place, e)
		}
		for m.Step() {
		}
	}
}

// Exit: a place that is in the stack already would never go; it is over all the same, and the segment there is whoever's that takes it.
func TestPutThere(t *testing.T) {
	w := newTwin(t, 5, 5)
	w.malloc(0, 2000, "fresh look grow", 17408)
	w.malloc(0, 15000, "fresh look grow", 33792)
	w.places(1)
	w.exit(0, "gather gather disown top put disown top put")
	w.nobody(3, 2, 1)
	w.force(1, "look take own sweep look take own sweep look")
	w.has(1, []int{2, 1}, 33792, 17408)
}

// Own: a place in the stack at which nobody left a segment gives nothing.
func TestOwnNothing(t *testing.T) {
	w := newTwin(t, 5, 5)
	for _, place := range []int{0, 2, 63} {
		w.places(place)
	}
	w.malloc(0, 16, "local fresh look take own local fresh look take own local fresh look take own local fresh look grow", 17408)
	w.places(1)
	w.malloc(1, 2000, "fresh look take own fresh look grow", 33792)
	w.has(0, []int{1}, 17408)
	w.places(2)
	w.force(0, "gather look take own look")
	w.has(1, []int{2}, 33792)
}

// A thread that exited begins anew, as any other.
func TestExitAgain(t *testing.T) {
	w := newTwin(t, 4, 4)
	w.malloc(0, 16, "local fresh look grow", 17408)
	w.exit(0, "gather disown top put")
	w.free(0, 17408, "find head post", api.OK)
	w.malloc(0, 2000, "fresh look take own sweep fresh look grow", 17408)
	w.free(0, 17408, "find", api.OK)
	w.nobody(1)
}
