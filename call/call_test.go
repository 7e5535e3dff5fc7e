package call_test

import (
	"bytes"
	"math"
	"slices"
	"testing"

	"allotment/api"
	"allotment/arena"
	"allotment/call"
	"allotment/cell"
)

// noThreads are numbers that no thread has.
func noThreads() []int {
	return []int{-1, -2, 8, 9, 16, 255, 256, 257, 1 << 31, 1 << 32, 1<<32 + 1, -1 << 31, -1 << 32, math.MaxInt, math.MaxInt - 1, math.MinInt, math.MinInt + 1}
}

// noKinds are numbers that no kind of a call has.
func noKinds() []int {
	return []int{0, -1, -2, -5, 6, 7, 16, 255, 257, 1<<32 + 1, -1 << 32, math.MaxInt, math.MinInt, math.MinInt + 1}
}

// nowhere are addresses at which no block ever is: of the system's own segment, of a segment's own slice, and beyond memory.
func nowhere() []uint64 {
	return []uint64{
		0, 1, 8, 16, 1023, 1024, 1040, 15360, 16368, 16383, 16385, 16400, 17392, 17407,
		api.MaxSize - 1, api.MaxSize, api.MaxSize + 1024, api.MaxSize + 16384, api.MaxSize + 17408, 1 << 32, 1<<32 + 16384, 1<<32 + 17408, 1 << 63, 1<<63 + 17408, math.MaxUint64 - 1023, math.MaxUint64,
	}
}

// noAligns are numbers that no alignment has.
func noAligns() []uint64 {
	return []uint64{3, 5, 6, 7, 9, 12, 15, 17, 24, 48, 1000, 1023, 1025, 2048, 4096, 16384, 1 << 31, 1 << 32, 1<<32 + 1, 1 << 62, 1 << 63, 1<<63 + 16, math.MaxUint64}
}

func made(t *testing.T, segs, limit int) *call.Sys {
	t.Helper()
	s, e := call.New(segs, limit)
	if s == nil || e != api.OK {
		t.Fatalf("New(%d, %d): %t, error %d", segs, limit, s != nil, e)
	}
	return s
}

// The chapter's example.
func TestExamples(t *testing.T) {
	s := made(t, 4, 4)
	f, e := s.Begin(0, api.Call{Kind: api.Malloc, N: 16})
	if f == nil || e != api.OK {
		t.Fatalf("Begin: %t, error %d", f != nil, e)
	}
	for _, state := range []string{"local", "fresh", "look", "grow"} {
		if f.State() != state || f.Done() || f.Result() != (api.Result{}) || !f.Step() {
			t.Fatalf("state %q, over %t, %+v; wanted %q", f.State(), f.Done(), f.Result(), state)
		}
	}
	if f.State() != "done" || !f.Done() || f.Step() || f.Result() != (api.Result{Addr: 17408, Steps: 4}) {
		t.Errorf("state %q, over %t, %+v", f.State(), f.Done(), f.Result())
	}
}

// P14.1: from 2 to MaxSegs segments, the limit from 1 to as many; else nil and ErrArg.
func TestNew(t *testing.T) {
	odd := []int{-1, -2, 65, 66, 128, 256, 1 << 31, 1<<32 + 2, -1 << 32, math.MaxInt, math.MinInt}
	for segs := range 68 {
		for limit := range 68 {
			s, e := call.New(segs, limit)
			if segs < 2 || segs > 64 || limit < 1 || limit > segs {
				if s != nil || e != api.ErrArg {
					t.Fatalf("New(%d, %d): %t, error %d", segs, limit, s != nil, e)
				}
				continue
			}
			if s == nil || e != api.OK {
				t.Fatalf("New(%d, %d): %t, error %d", segs, limit, s != nil, e)
			}
		}
		for _, x := range odd {
			s, e := call.New(segs, x)
			o, f := call.New(x, segs)
			if s != nil || o != nil || e != api.ErrArg || f != api.ErrArg {
				t.Fatalf("New of %d and %d: errors %d, %d", segs, x, e, f)
			}
		}
	}
}

// A new system: memory of noughts, the arena's first segment given for good, nobody in the stack, heaps that have nothing.
func TestNewSystem(t *testing.T) {
	for _, x := range [][2]int{{2, 1}, {2, 2}, {3, 2}, {7, 7}, {64, 1}, {64, 64}} {
		segs, limit := x[0], x[1]
		s := made(t, segs, limit)
		m, a, k := s.Mem(), s.Arena(), s.Stack()
		if m == nil || a == nil || k == nil || s.Mem() != m || s.Arena() != a || s.Stack() != k {
			t.Fatalf("New(%d, %d): memory, arena, or stack", segs, limit)
		}
		if b, e := m.Get(0, m.Size()); len(b) != segs*16384 || e != api.OK || bytes.Count(b, []byte{0}) != len(b) {
			t.Errorf("New(%d, %d): memory of %d", segs, limit, m.Size())
		}
		if l := a.Regions(); !slices.Equal(l, []arena.Region{{At: 0, N: 1}}) || a.Given() != 1 || a.Refused() != 0 {
			t.Errorf("New(%d, %d): regions %v, refused %d", segs, limit, l, a.Refused())
		}
		if len(k.All()) != 0 || cell.Asked(k.Cell()) != 0 {
			t.Errorf("New(%d, %d): stack %v, asked %d", segs, limit, k.All(), cell.Asked(k.Cell()))
		}
		for th := range 8 {
			h, e := s.Heap(th)
			if again, _ := s.Heap(th); h == nil || e != api.OK || again != h || len(h.Segs()) != 0 || len(h.Pages()) != 0 {
				t.Errorf("New(%d, %d): heap %d", segs, limit, th)
			}
		}
		if at, e := a.Reserve(segs); e != api.ErrFull {
			t.Errorf("New(%d, %d): %d segments at %d, error %d", segs, limit, segs, at, e)
		}
		if at, e := a.Reserve(limit); e != api.ErrFull {
			t.Errorf("New(%d, %d): %d segments at %d, error %d", segs, limit, limit, at, e)
		}
		if limit == 1 {
			continue
		}
		if at, e := a.Reserve(limit - 1); at != 1 || e != api.OK {
			t.Errorf("New(%d, %d): %d segments at %d, error %d", segs, limit, limit-1, at, e)
		}
	}
}

// P14.1: the heap of thread t has the number t + 1, the system's memory, and its arena.
func TestHeap(t *testing.T) {
	s := made(t, 10, 10)
	for _, x := range noThreads() {
		if h, e := s.Heap(x); h != nil || e != api.ErrArg {
			t.Errorf("Heap(%d): %t, error %d", x, h != nil, e)
		}
	}
	for th := range 8 {
		h, e := s.Heap(th)
		if e != api.OK || h.Grow() != api.OK {
			t.Fatalf("Heap(%d): error %d", th, e)
		}
		g := h.Segs()[0]
		if id, _ := g.Owner().Load(); id != uint64(th)+1 || g.Place() != th+1 || s.Arena().Given() != th+2 {
			t.Errorf("Heap(%d): number %d, segment %d, given %d", th, id, g.Place(), s.Arena().Given())
		}
	}
	for th := range 8 {
		if h, _ := s.Heap(th); len(h.Segs()) != 1 {
			t.Errorf("heap %d: %d segments", th, len(h.Segs()))
		}
	}
}

// Of a nil Sys ErrNil, beside it zero; the others zero.
func TestNilSys(t *testing.T) {
	var s *call.Sys
	if s.Mem() != nil || s.Arena() != nil || s.Stack() != nil {
		t.Error("memory, arena, or stack")
	}
	for _, x := range append(noThreads(), 0, 1, 7) {
		if h, e := s.Heap(x); h != nil || e != api.ErrNil {
			t.Errorf("Heap(%d): %t, error %d", x, h != nil, e)
		}
		for _, k := range append(noKinds(), 1, 2, 3, 4, 5) {
			if f, e := s.Begin(x, api.Call{Kind: k, N: 16}); f != nil || e != api.ErrNil {
				t.Errorf("Begin(%d), kind %d: %t, error %d", x, k, f != nil, e)
			}
		}
	}
	for _, addr := range append(nowhere(), 16384, 17408) {
		if n, e := s.Usable(addr); n != 0 || e != api.ErrNil {
			t.Errorf("Usable(%d): %d, error %d", addr, n, e)
		}
	}
}

// Of a nil Frame: false, "", Done true, zero; one that no system began has nothing to do, either.
func TestNilFrame(t *testing.T) {
	for _, f := range []*call.Frame{nil, {}, new(call.Frame)} {
		for range 3 {
			if f.Step() || f.State() != "" || !f.Done() || f.Result() != (api.Result{}) {
				t.Errorf("Step %t, State %q, Done %t, %+v", f.Step(), f.State(), f.Done(), f.Result())
			}
		}
	}
}

// A Sys that New didn't make has nothing; its calls end all the same.
func TestZeroSys(t *testing.T) {
	s := &call.Sys{}
	s.Mem()
	s.Arena()
	s.Stack()
	s.Heap(0)
	s.Usable(16384)
	for kind := 1; kind <= 5; kind++ {
		for _, n := range []uint64{16, 2000, 20000} {
			f, _ := s.Begin(0, api.Call{Kind: kind, Addr: 17408, N: n, Zero: true, Force: true})
			for i := 0; f.Step(); i++ {
				if i == 20 {
					t.Fatalf("kind %d: no end", kind)
				}
			}
		}
	}
}

// P14.2: ErrArg, unless t is a thread, and Kind is a kind; nothing is changed.
func TestBeginArguments(t *testing.T) {
	s := made(t, 3, 3)
	for th := range 8 {
		for _, k := range noKinds() {
			if f, e := s.Begin(th, api.Call{Kind: k, N: 16, Align: 1}); f != nil || e != api.ErrArg {
				t.Errorf("Begin(%d), kind %d: %t, error %d", th, k, f != nil, e)
			}
		}
	}
	for _, th := range noThreads() {
		for _, k := range append(noKinds(), 1, 2, 3, 4, 5) {
			if f, e := s.Begin(th, api.Call{Kind: k, N: 16, Align: 1}); f != nil || e != api.ErrArg {
				t.Errorf("Begin(%d), kind %d: %t, error %d", th, k, f != nil, e)
			}
		}
	}
	if s.Arena().Given() != 1 || len(s.Stack().All()) != 0 || cell.Asked(s.Stack().Cell()) != 0 {
		t.Error("changed")
	}
}

// P14.2: the first state, of each kind, and plan; to begin a call changes nothing.
func TestBegin(t *testing.T) {
	for _, x := range []struct {
		c     api.Call
		state string
	}{
		{api.Call{Kind: api.Malloc}, "local"},
		{api.Call{Kind: api.Malloc, N: 1, Align: 1}, "local"},
		{api.Call{Kind: api.Malloc, N: 1024, Align: 1024}, "local"},
		{api.Call{Kind: api.Malloc, N: 1025}, "fresh"},
		{api.Call{Kind: api.Malloc, N: 15360, Align: 1024, Zero: true}, "fresh"},
		{api.Call{Kind: api.Malloc, N: 15361}, "huge"},
		{api.Call{Kind: api.Malloc, N: api.MaxSize, Align: 2}, "huge"},
		{api.Call{Kind: api.Malloc, N: api.MaxSize + 1}, "refuse"},
		{api.Call{Kind: api.Malloc, N: 16, Align: 3}, "refuse"},
		{api.Call{Kind: api.Free}, "find"},
		{api.Call{Kind: api.Free, Addr: 17408}, "find"},
		{api.Call{Kind: api.Free, Addr: math.MaxUint64, N: math.MaxUint64, Align: 3}, "find"},
		{api.Call{Kind: api.Realloc}, "fit"},
		{api.Call{Kind: api.Realloc, Addr: 17408, N: math.MaxUint64, Align: 3}, "fit"},
		{api.Call{Kind: api.Collect}, "rest"},
		{api.Call{Kind: api.Collect, Force: true}, "look"},
		{api.Call{Kind: api.Exit}, "rest"},
		{api.Call{Kind: api.Exit, Force: true}, "rest"},
	} {
		w := newTwin(t, 3, 3)
		for th := range 8 {
			r := w.begins(th, x.c)
			if r.f.State() != x.state {
				t.Errorf("%+v: %q; wanted %q", x.c, r.f.State(), x.state)
			}
		}
		w.same()
		w.nobody(1)
	}
}

// P14.1: Usable of blocks of all classes, of one block alone, and huge ones; of all addresses of the memory none but those of blocks.
func TestUsable(t *testing.T) {
	w := newTwin(t, 12, 12)
	usable := map[uint64]uint64{}
	want := func(r *running, n uint64) {
		for !w.steps(r) {
		}
		usable[r.f.Result().Addr] = n
	}
	for i, size := range []uint64{16, 32, 48, 64, 96, 128, 192, 256, 384, 512, 768, 1024, 2048, 5120, 15360} {
		for range 3 {
			want(w.begins(i%3, api.Call{Kind: api.Malloc, N: size}), size)
		}
	}
	want(w.begins(3, api.Call{Kind: api.Malloc, N: 15361}), 16384)
	want(w.begins(3, api.Call{Kind: api.Malloc, N: 16385}), 32768)
	if len(usable) != 47 {
		t.Fatalf("%d blocks", len(usable))
	}
	for _, addr := range append(nowhere(), 16384) {
		w.usables(addr)
	}
	blocks := 0
	for addr := range uint64(12 * 16384) {
		n, e := w.s.Usable(addr)
		if n == 0 != (e == api.ErrNone) || usable[addr] > 0 && n != usable[addr] {
			t.Fatalf("Usable(%d): %d, error %d; wanted %d", addr, n, e, usable[addr])
		}
		if n == 0 && e == api.OK || n != w.w.usable(addr) {
			t.Fatalf("Usable(%d): %d, error %d; wanted %d", addr, n, e, w.w.usable(addr))
		}
		if n > 0 {
			blocks++
		}
	}
	if blocks != 12*4+3+3+3+2 { // each class's page has four blocks made, of which three are handed out
		t.Errorf("%d blocks", blocks)
	}
}

// P14.1: a block's place is the same in the stack, and on its way there and back.
func TestUsableOnTheWay(t *testing.T) {
	w := newTwin(t, 3, 3)
	a := w.malloc(0, 16, "local fresh look grow", 17408)
	b := w.malloc(0, 2000, "fresh", 18432)
	has := func(what string) {
		t.Helper()
		for addr, n := range map[uint64]uint64{a: 16, a + 16: 16, a + 48: 16, b: 2048, a + 64: 0, a + 1: 0, a + 8: 0, b + 1024: 0, b + 6144: 0, 16384: 0} {
			if got, e := w.s.Usable(addr); got != n || e != api.OK && (n > 0 || e != api.ErrNone) {
				t.Fatalf("%s: Usable(%d): %d, error %d", what, addr, got, e)
			}
		}
	}
	has("owned")
	out := w.begins(0, api.Call{Kind: api.Exit})
	for !w.steps(out) {
		has("exit " + out.f.State())
	}
	has("in the stack")
	in := w.begins(1, api.Call{Kind: api.Malloc, N: 4096})
	for !w.steps(in) {
		has("malloc " + in.f.State())
	}
	has("adopted")
	w.has(1, []int{1}, a, b, 20480)
	w.free(1, a, "find", api.OK)
	w.free(0, b, "find head post", api.OK)
	for addr, n := range map[uint64]uint64{a: 0, a + 16: 0, b: 2048, 20480: 4096} {
		if got, _ := w.s.Usable(addr); got != n {
			t.Errorf("Usable(%d): %d; wanted %d", addr, got, n)
		}
	}
}
