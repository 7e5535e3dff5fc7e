package world_test

import (
	"bytes"
	"math"
	"slices"
	"testing"

	"allotment/api"
	"allotment/call"
	"allotment/world"
)

const greatest = 1<<64 - 1

// noThreads are numbers that no thread has.
func noThreads() []int {
	return []int{-1, -2, 8, 9, 16, 255, 256, 257, 1 << 31, 1 << 32, 1<<32 + 1, -1 << 31, -1 << 32, math.MaxInt, math.MaxInt - 1, math.MinInt, math.MinInt + 1}
}

// noKinds are numbers that no kind of a call has.
func noKinds() []int {
	return []int{0, -1, -2, -5, 6, 7, 16, 255, 257, 1<<32 + 1, -1 << 32, math.MaxInt, math.MinInt, math.MinInt + 1}
}

// nowhere are addresses that no block is at.
func nowhere() []uint64 {
	return []uint64{0, 1, 8, 1024, 16383, 16384, 17407, api.MaxSize - 1, api.MaxSize, api.MaxSize + 17408, 1 << 32, 1<<32 + 17408, 1 << 63, 1<<63 + 17408, greatest - 1, greatest}
}

// every is a call of each kind.
func every(addr uint64) []api.Call {
	var l []api.Call
	for kind := 1; kind <= 5; kind++ {
		l = append(l, api.Call{Kind: kind, Addr: addr, N: 16})
	}
	return l
}

// The chapter's example.
func TestExamples(t *testing.T) {
	w, e := world.New(4, 4, 2)
	if e != api.OK || w.Start(0, 1) != api.OK || w.Call(0, api.Call{Kind: api.Malloc, N: 8}) != api.OK {
		t.Fatalf("New: error %d", e)
	}
	for i := range 4 {
		if over, e := w.Step(0); over != (i == 3) || e != api.OK {
			t.Fatalf("step %d: over %t, error %d", i, over, e)
		}
	}
	l := w.Live()
	if !slices.Equal(l, []api.Block{{Addr: 17408, N: 8, Align: 1}}) {
		t.Fatalf("Live: %v", l)
	}
	free := api.Call{Kind: api.Free, Addr: 17408}
	if e, f, g := w.Call(0, free), w.Call(0, free), w.Call(1, free); e != api.OK || f != api.ErrBusy || g != api.ErrBusy {
		t.Errorf("Free: errors %d, %d, %d", e, f, g)
	}
	if over, e := w.Step(0); !over || e != api.OK || len(w.Live()) != 0 {
		t.Errorf("Free: over %t, error %d", over, e)
	}
	if e, f := w.Call(0, free), w.Call(1, free); e != api.ErrNone || f != api.ErrNone {
		t.Errorf("Free: errors %d, %d", e, f)
	}
}

// P16.1: from 1 to MaxThreads threads, and layer 14's segments; else nil and ErrArg.
func TestNew(t *testing.T) {
	for segs := -1; segs < 67; segs++ {
		for _, limit := range []int{-1, 0, 1, 2, segs - 1, segs, segs + 1, 64, 65} {
			for threads := -1; threads < 11; threads++ {
				w, e := world.New(segs, limit, threads)
				if segs < 2 || segs > 64 || limit < 1 || limit > segs || threads < 1 || threads > 8 {
					if w != nil || e != api.ErrArg {
						t.Fatalf("New(%d, %d, %d): %t, error %d", segs, limit, threads, w != nil, e)
					}
					continue
				}
				if w == nil || e != api.OK || w.Threads() != threads {
					t.Fatalf("New(%d, %d, %d): %d threads, error %d", segs, limit, threads, w.Threads(), e)
				}
			}
		}
	}
	for _, x := range noThreads() {
		if x == 8 {
			continue // a thread of none, but how many there may be
		}
		if w, e := world.New(4, 4, x); w != nil || e != api.ErrArg {
			t.Errorf("New(4, 4, %d): %t, error %d", x, w != nil, e)
		}
		if w, e := world.New(4, x, 2); w != nil || e != api.ErrArg {
			t.Errorf("New(4, %d, 2): %t, error %d", x, w != nil, e)
		}
		if w, e := world.New(x, 1, 2); x != 9 && x != 16 && (w != nil || e != api.ErrArg) {
			t.Errorf("New(%d, 1, 2): %t, error %d", x, w != nil, e)
		}
	}
}

// P16.1: a new world's threads aren't started, nothing is handed out, and its system is a new one of so many segments.
func TestNewWorld(t *testing.T) {
	for _, x := range [][3]int{{2, 1, 1}, {2, 2, 8}, {3, 2, 2}, {7, 7, 3}, {64, 64, 8}} {
		v := newTwin(t, x[0], x[1], x[2])
		v.same()
		s := v.w.Sys()
		if s == nil || v.w.Sys() != s || s.Mem().Size() != uint64(x[0])*16384 || s.Arena().Given() != 1 {
			t.Errorf("New(%v): the system", x)
		}
		if at, e := s.Arena().Reserve(x[1]); e != api.ErrFull {
			t.Errorf("New(%v): %d segments at %d, error %d", x, x[1], at, e)
		}
		if at, e := s.Arena().Reserve(max(x[1]-1, 1)); x[1] > 1 && (at != 1 || e != api.OK) {
			t.Errorf("New(%v): %d segments at %d, error %d", x, x[1]-1, at, e)
		}
	}
}

// Of a nil World ErrNil, beside it zero; the others zero. So all arguments.
func TestNil(t *testing.T) {
	var w *world.World
	if w.Live() != nil || w.Sys() != nil || w.Threads() != 0 || w.Start() != api.ErrNil {
		t.Error(w.Live(), w.Threads(), w.Start())
	}
	for _, x := range append(noThreads(), 0, 1, 7) {
		if w.Start(x) != api.ErrNil || w.Start(0, x) != api.ErrNil || w.Up(x) || w.Pending(x) {
			t.Errorf("thread %d: Start, Up, or Pending", x)
		}
		if is, e := w.Step(x); is || e != api.ErrNil {
			t.Errorf("Step(%d): %t, error %d", x, is, e)
		}
		if r, e := w.Result(x); r != (api.Result{}) || e != api.ErrNil {
			t.Errorf("Result(%d): %v, error %d", x, r, e)
		}
		for _, kind := range append(noKinds(), 1, 2, 3, 4, 5) {
			if e := w.Call(x, api.Call{Kind: kind}); e != api.ErrNil {
				t.Errorf("Call(%d), kind %d: error %d", x, kind, e)
			}
		}
		for _, addr := range nowhere() {
			if b, e := w.Read(x, addr, 1); len(b) != 0 || e != api.ErrNil {
				t.Errorf("Read(%d, %d): %v, error %d", x, addr, b, e)
			}
			if e, f := w.Write(x, addr, 1), w.Write(x, addr); e != api.ErrNil || f != api.ErrNil {
				t.Errorf("Write(%d, %d): errors %d, %d", x, addr, e, f)
			}
		}
	}
}

// A World that New didn't make has no thread; nothing panics.
func TestZeroWorld(t *testing.T) {
	for range 2 {
		w := &world.World{}
		if len(w.Live()) != 0 || w.Sys() != nil || w.Threads() != 0 || w.Start() != api.OK || w.Start(0) != api.ErrArg {
			t.Error(w.Live(), w.Threads())
		}
		for _, x := range append(noThreads(), 0, 1, 7) {
			is, e := w.Step(x)
			r, f := w.Result(x)
			b, g := w.Read(x, 17408, 0)
			if is || e != api.ErrArg || r != (api.Result{}) || f != e || len(b) != 0 || g != e || w.Write(x, 17408) != e || w.Up(x) || w.Pending(x) {
				t.Errorf("thread %d", x)
			}
			for _, c := range every(17408) {
				if e := w.Call(x, c); e != api.ErrArg {
					t.Errorf("Call(%d), kind %d: error %d", x, c.Kind, e)
				}
			}
		}
	}
}

// P16.1: none at all, one, and many are started; at the first that is started, or no thread, it is over: those ahead are up, those behind aren't.
func TestStart(t *testing.T) {
	for _, x := range []struct {
		t  []int
		f  api.Errno
		up []int
	}{
		{nil, api.OK, nil},
		{[]int{0}, api.OK, []int{0}},
		{[]int{7}, api.OK, []int{7}},
		{[]int{7, 0, 3}, api.OK, []int{0, 3, 7}},
		{[]int{0, 1, 2, 3, 4, 5, 6, 7}, api.OK, []int{0, 1, 2, 3, 4, 5, 6, 7}},
		{[]int{2, 2, 3}, api.ErrThere, []int{2}},
		{[]int{2, 3, 2, 4}, api.ErrThere, []int{2, 3}},
		{[]int{8}, api.ErrArg, nil},
		{[]int{-1}, api.ErrArg, nil},
		{[]int{1, 8, 2}, api.ErrArg, []int{1}},
		{[]int{1, -1, 1}, api.ErrArg, []int{1}},
		{[]int{1, 1, -1}, api.ErrThere, []int{1}},
		{[]int{256, 0}, api.ErrArg, nil},
		{[]int{5, 1 << 32, 6}, api.ErrArg, []int{5}},
	} {
		v := newTwin(t, 2, 2, 8)
		v.want("Start", v.starts(x.t...), x.f)
		for th := range 8 {
			if v.w.Up(th) != slices.Contains(x.up, th) {
				v.fatal("Start", x.t, "thread", th, "up", v.w.Up(th))
			}
		}
		v.same()
		for th := range 8 { // who is up is so once
			f := api.OK
			if slices.Contains(x.up, th) {
				f = api.ErrThere
			}
			v.want("Start", v.starts(th), f)
		}
		v.same()
	}
}

// P16.1: a thread is one of the world's own, be it of as many as it likes.
func TestThreads(t *testing.T) {
	for n := 1; n <= 8; n++ {
		v := newTwin(t, 10, 10, n)
		for _, x := range append(noThreads(), n, n+1) {
			v.want("Start", v.starts(x), api.ErrArg)
			if v.w.Up(x) || v.w.Pending(x) {
				t.Errorf("thread %d of %d", x, n)
			}
			for _, c := range every(17408) {
				v.want("Call", v.calls(x, c), api.ErrArg)
			}
			v.steps(x)
			v.reads(x, 17408, 1)
			v.writes(x, 17408, 1)
			if r, e := v.w.Result(x); r != (api.Result{}) || e != api.ErrArg {
				t.Errorf("Result(%d): %v, error %d", x, r, e)
			}
		}
		v.same()
		for x := range n {
			v.want("Start", v.starts(x), api.OK)
			v.malloc(x, 16)
		}
		v.same()
	}
}

// P16.2 to P16.4: who isn't started, or is over, does nothing, whatever it asks for, of blocks that are held, too: ErrNone goes ahead of all other errors.
func TestNotUp(t *testing.T) {
	v := newTwin(t, 5, 5, 3)
	v.starts(0, 2)
	addr := v.malloc(0, 16)
	v.malloc(2, 16)
	v.now(2, api.Call{Kind: api.Exit})
	for _, held := range []bool{false, true} {
		if held {
			v.want("Call", v.calls(0, api.Call{Kind: api.Free, Addr: addr}), api.OK)
		}
		for _, x := range []int{1, 2} {
			for _, a := range append(nowhere(), addr, addr+1) {
				for _, c := range every(a) {
					v.want("Call", v.calls(x, c), api.ErrNone)
				}
				for _, n := range []uint64{0, 1, 16, 17, greatest} {
					_, e := v.reads(x, a, n)
					v.want("Read", e, api.ErrNone)
				}
				v.want("Write", v.writes(x, a), api.ErrNone)
				v.want("Write", v.writes(x, a, 1, 2, 3), api.ErrNone)
			}
			for _, kind := range noKinds() {
				v.want("Call", v.calls(x, api.Call{Kind: kind, Addr: addr}), api.ErrNone)
			}
			_, e := v.steps(x)
			v.want("Step", e, api.ErrNone)
		}
		v.same()
	}
}

// P16.2: who has a call does nothing but step it: ErrBusy goes ahead of all errors of what it asks for.
func TestBusy(t *testing.T) {
	for _, had := range every(17408) {
		v := upTwin(t, 5, 5, 2)
		addr := v.malloc(0, 16)
		other := v.malloc(0, 16)
		v.want("Call", v.calls(0, had), api.OK)
		v.same()
		for _, a := range append(nowhere(), addr, other, other+15, other+16) {
			for _, c := range every(a) {
				v.want("Call", v.calls(0, c), api.ErrBusy)
			}
			for _, n := range []uint64{0, 1, 16, 17, greatest} {
				_, e := v.reads(0, a, n)
				v.want("Read", e, api.ErrBusy)
			}
			v.want("Write", v.writes(0, a), api.ErrBusy)
			v.want("Write", v.writes(0, a, 1, 2, 3), api.ErrBusy)
		}
		for _, kind := range noKinds() {
			v.want("Call", v.calls(0, api.Call{Kind: kind, Addr: other}), api.ErrBusy)
		}
		v.want("Start", v.starts(0), api.ErrThere)
		v.same()
		v.want("Call", v.calls(1, api.Call{Kind: api.Free, Addr: other}), api.OK) // a call that was refused holds nothing
		v.alone(1)
		v.alone(0)
		v.same()
	}
}

// P16.2: what is no kind is refused, of blocks that aren't there, too, and holds none.
func TestKinds(t *testing.T) {
	v := upTwin(t, 3, 3, 2)
	addr := v.malloc(0, 16)
	for _, kind := range noKinds() {
		for _, a := range append(nowhere(), addr) {
			v.want("Call", v.calls(0, api.Call{Kind: kind, Addr: a, N: 16, Align: 3}), api.ErrArg)
		}
	}
	v.same()
	v.want("Call", v.calls(1, api.Call{Kind: api.Free, Addr: addr}), api.OK)
	for _, kind := range noKinds() {
		v.want("Call", v.calls(0, api.Call{Kind: kind, Addr: addr}), api.ErrArg)
	}
}

// P16.2: of Free, and Realloc, an address at which no block begins is refused, of the others not even looked at; so is one that is held.
func TestNoBlock(t *testing.T) {
	v := upTwin(t, 6, 6, 3)
	a, b, huge := v.malloc(0, 16), v.malloc(0, 40), v.malloc(1, 20000)
	free := v.malloc(0, 16)
	v.now(0, api.Call{Kind: api.Free, Addr: free})
	for _, x := range append(nowhere(), a+1, a+15, a+16, b-1, b+8, b+39, huge+1, huge+16384, huge+19999, free) {
		for _, kind := range []int{api.Free, api.Realloc} {
			for th := range 3 {
				v.want("Call", v.calls(th, api.Call{Kind: kind, Addr: x, N: 16}), api.ErrNone)
			}
		}
	}
	v.same()
	for _, x := range nowhere() {
		for _, kind := range []int{api.Malloc, api.Collect} {
			v.now(0, api.Call{Kind: kind, Addr: x, N: 16})
			v.now(0, api.Call{Kind: kind, Addr: a, N: 16})
		}
	}
	for _, kind := range []int{api.Free, api.Realloc} {
		for _, x := range []uint64{a, b, huge} {
			v.want("Call", v.calls(0, api.Call{Kind: kind, Addr: x, N: 50}), api.OK)
			for _, again := range []int{api.Free, api.Realloc} {
				v.want("Call", v.calls(1, api.Call{Kind: again, Addr: x, N: 50}), api.ErrBusy)
				v.want("Call", v.calls(2, api.Call{Kind: again, Addr: x}), api.ErrBusy)
			}
			v.same()
			v.alone(0)
			v.same()
			for _, again := range []int{api.Free, api.Realloc} {
				v.want("Call", v.calls(1, api.Call{Kind: again, Addr: x}), api.ErrNone)
			}
		}
		a, b, huge = v.malloc(0, 16), v.malloc(0, 40), v.malloc(1, 20000)
	}
}

// P16.2: a Malloc that went well is live by that step, and not ahead of it, with its own N and Align, 0 as 1; one that didn't is none.
func TestMalloc(t *testing.T) {
	for _, n := range []uint64{0, 1, 8, 16, 17, 1000, 1024, 1025, 15360, 15361, 40000} {
		for _, align := range []uint64{0, 1, 2, 16, 512, 1024} {
			v := upTwin(t, 8, 8, 1)
			v.want("Call", v.calls(0, api.Call{Kind: api.Malloc, N: n, Align: align}), api.OK)
			over := false
			for !over {
				if l := v.w.Live(); len(l) != 0 {
					v.fatal("ahead of its end", l)
				}
				over, _ = v.steps(0)
			}
			r, e := v.w.Result(0)
			if l := v.w.Live(); e != api.OK || !slices.Equal(l, []api.Block{{Addr: r.Addr, N: n, Align: max(align, 1)}}) {
				v.fatal("Live", l, "result", r, e)
			}
			v.same()
		}
	}
	v := upTwin(t, 3, 2, 1)
	v.malloc(0, 16)
	for _, c := range []api.Call{{N: 1 << 21}, {N: greatest}, {N: 8, Align: 3}, {N: 8, Align: 2048}, {N: 8, Align: greatest}, {N: 20000}, {N: 15000}} {
		c.Kind = api.Malloc
		r := v.now(0, c)
		if r.Err == api.OK || r.Addr != 0 || len(v.w.Live()) != 1 {
			v.fatal("result", r, "of", c)
		}
		v.same()
	}
}

// P16.2: Zero and Force are the call's own.
func TestZeroAndForce(t *testing.T) {
	v := upTwin(t, 4, 4, 2)
	a := v.malloc(0, 500)
	v.writes(0, a, bytes.Repeat([]byte{7}, 500)...)
	v.now(0, api.Call{Kind: api.Free, Addr: a})
	r := v.now(0, api.Call{Kind: api.Malloc, N: 500, Zero: true})
	if b, _ := v.reads(0, r.Addr, 500); !bytes.Equal(b, make([]byte, 500)) {
		v.fatal("not noughts")
	}
	v.now(0, api.Call{Kind: api.Exit})
	v.now(1, api.Call{Kind: api.Free, Addr: r.Addr})
	v.now(1, api.Call{Kind: api.Collect})
	v.same()
	if len(v.w.Sys().Stack().All()) != 1 {
		v.fatal("taken over without Force")
	}
	v.now(1, api.Call{Kind: api.Collect, Force: true})
	v.same()
	if v.w.Sys().Arena().Given() != 1 {
		v.fatal("not taken over")
	}
}

// P16.2: a Free's block is held till it is over, live till then, and none by that step, whoever gives it back.
func TestFree(t *testing.T) {
	for _, n := range []uint64{0, 16, 1024, 5000, 20000} {
		for _, by := range []int{0, 1} {
			v := upTwin(t, 6, 6, 2)
			addr := v.malloc(0, n)
			v.malloc(0, n/2+1)
			v.want("Call", v.calls(by, api.Call{Kind: api.Free, Addr: addr}), api.OK)
			for {
				v.same()
				if len(v.w.Live()) != 2 {
					v.fatal("none ahead of its end")
				}
				_, e := v.reads(1-by, addr, 0)
				v.want("Read", e, api.ErrBusy)
				v.want("Write", v.writes(1-by, addr), api.ErrBusy)
				if over, _ := v.steps(by); over {
					break
				}
			}
			v.same()
			if r, _ := v.w.Result(by); r.Err != api.OK || len(v.w.Live()) != 1 {
				v.fatal("result", r, v.w.Live())
			}
			_, e := v.reads(by, addr, 0)
			v.want("Read", e, api.ErrNone)
		}
	}
}

// P16.2: a Realloc that went well, in place too, leaves the new block, of Align 1; what was in it is in it still, as much as both have.
func TestRealloc(t *testing.T) {
	for _, x := range []struct {
		n, to uint64
		stays bool
	}{
		{40, 0, false}, {40, 16, false}, {40, 40, true}, {40, 33, true}, {40, 48, true}, {40, 49, false}, {40, 1000, false}, {40, 3000, false}, {40, 20000, false},
		{0, 0, true}, {0, 16, true}, {3000, 100, false}, {3000, 2500, true}, {3000, 3072, true}, {20000, 32768, true}, {20000, 17000, true}, {20000, 40000, false}, {20000, 3000, false},
	} {
		v := upTwin(t, 12, 12, 2)
		r := v.now(0, api.Call{Kind: api.Malloc, N: x.n, Align: 16})
		addr, text := r.Addr, make([]byte, x.n)
		for i := range text {
			text[i] = byte(i*7 + 3)
		}
		v.writes(0, addr, text...)
		v.want("Call", v.calls(1, api.Call{Kind: api.Realloc, Addr: addr, N: x.to, Align: 512, Zero: true}), api.OK)
		for {
			v.same()
			if !slices.Equal(v.w.Live(), []api.Block{{Addr: addr, N: x.n, Align: 16}}) {
				v.fatal("ahead of its end", v.w.Live())
			}
			_, e := v.reads(0, addr, 0)
			v.want("Read", e, api.ErrBusy)
			if over, _ := v.steps(1); over {
				break
			}
		}
		v.same()
		r, _ = v.w.Result(1)
		if r.Err != api.OK || (r.Addr == addr) != x.stays || !slices.Equal(v.w.Live(), []api.Block{{Addr: r.Addr, N: x.to, Align: 1}}) {
			v.fatal("result", r, v.w.Live())
		}
		n := min(x.n, x.to)
		if b, e := v.reads(0, r.Addr, n); e != api.OK || !bytes.Equal(b, text[:n]) {
			v.fatal("what was in it", e)
		}
		v.now(0, api.Call{Kind: api.Free, Addr: r.Addr})
	}
}

// P16.2: a Realloc that didn't go well lets the old block be as it was.
func TestReallocRefused(t *testing.T) {
	for _, x := range []struct {
		n uint64
		f api.Errno
	}{{api.MaxSize + 1, api.ErrArg}, {greatest, api.ErrArg}, {1 << 32, api.ErrArg}, {40000, api.ErrFull}, {15000, api.ErrFull}} {
		v := upTwin(t, 3, 2, 2)
		addr := v.now(0, api.Call{Kind: api.Malloc, N: 16, Align: 8}).Addr
		v.writes(0, addr, 1, 2, 3)
		r := v.now(0, api.Call{Kind: api.Realloc, Addr: addr, N: x.n})
		if r.Err != x.f || r.Addr != 0 || !slices.Equal(v.w.Live(), []api.Block{{Addr: addr, N: 16, Align: 8}}) {
			v.fatal("result", r, v.w.Live())
		}
		v.same()
		if b, e := v.reads(1, addr, 3); e != api.OK || !bytes.Equal(b, []byte{1, 2, 3}) {
			v.fatal("Read", b, e)
		}
		v.want("Call", v.calls(1, api.Call{Kind: api.Realloc, Addr: addr, N: 12}), api.OK)
		v.alone(1)
		v.now(0, api.Call{Kind: api.Free, Addr: addr})
		v.same()
	}
}

// P16.2: behind an Exit, and not ahead of its end, the thread is over, for good; what it was handed out is live, and others give it back.
func TestExit(t *testing.T) {
	v := upTwin(t, 4, 4, 2)
	addr := v.malloc(0, 16)
	v.writes(0, addr, 4, 5)
	v.want("Call", v.calls(0, api.Call{Kind: api.Exit, Addr: addr}), api.OK)
	for over := false; !over; {
		if !v.w.Up(0) || !v.w.Pending(0) {
			v.fatal("over ahead of its end")
		}
		over, _ = v.steps(0)
		v.same()
	}
	if v.w.Up(0) || v.w.Pending(0) {
		v.fatal("not over")
	}
	v.want("Start", v.starts(0), api.ErrThere)
	v.want("Start", v.starts(0, 1), api.ErrThere)
	if r, e := v.w.Result(0); e != api.OK || r != (api.Result{Steps: 4}) {
		v.fatal("result", r, e)
	}
	if b, e := v.reads(1, addr, 2); e != api.OK || !bytes.Equal(b, []byte{4, 5}) {
		v.fatal("Read", b, e)
	}
	v.want("Call", v.calls(0, api.Call{Kind: api.Free, Addr: addr}), api.ErrNone)
	v.now(1, api.Call{Kind: api.Free, Addr: addr})
	v.now(1, api.Call{Kind: api.Collect, Force: true})
	if v.w.Sys().Arena().Given() != 1 || len(v.w.Live()) != 0 {
		v.fatal("not whole", v.w.Live())
	}
	v.same()
}

// P16.2: who has no call doesn't step, ahead of its first one, and behind each.
func TestStepIdle(t *testing.T) {
	v := upTwin(t, 4, 4, 2)
	for _, c := range every(17408) {
		for range 2 {
			over, e := v.steps(0)
			if over || e != api.ErrIdle {
				v.fatal("Step", over, e)
			}
		}
		v.same()
		if c.Kind == api.Exit {
			v.malloc(0, 16)
		}
		v.now(0, c)
		if c.Kind == api.Free {
			v.malloc(0, 16)
		}
	}
	over, e := v.steps(0)
	if over || e != api.ErrNone {
		v.fatal("Step", over, e)
	}
}

// P16.3: the last result is told of a call that is over, while the next one isn't, of threads that are over, too.
func TestResult(t *testing.T) {
	v := newTwin(t, 4, 4, 2)
	is := func(r api.Result, f api.Errno) {
		t.Helper()
		v.same()
		if got, e := v.w.Result(0); got != r || e != f {
			v.fatal("Result", got, e, "wanted", r, f)
		}
	}
	is(api.Result{}, api.ErrNone)
	v.starts(0, 1)
	is(api.Result{}, api.ErrNone)
	v.calls(0, api.Call{Kind: api.Malloc, N: 16})
	is(api.Result{}, api.ErrNone)
	for range 3 {
		v.steps(0)
		is(api.Result{}, api.ErrNone)
	}
	v.steps(0)
	is(api.Result{Addr: 17408, Steps: 4}, api.OK)
	v.calls(0, api.Call{Kind: api.Malloc, N: greatest})
	is(api.Result{Addr: 17408, Steps: 4}, api.OK)
	v.calls(0, api.Call{Kind: 9})
	v.steps(0)
	is(api.Result{Err: api.ErrArg, Steps: 1}, api.OK)
	v.calls(0, api.Call{Kind: api.Free, Addr: 5})
	v.calls(0, api.Call{Kind: 9})
	is(api.Result{Err: api.ErrArg, Steps: 1}, api.OK)
	v.now(1, api.Call{Kind: api.Collect})
	is(api.Result{Err: api.ErrArg, Steps: 1}, api.OK)
	v.now(0, api.Call{Kind: api.Free, Addr: 17408})
	is(api.Result{Steps: 1}, api.OK)
	v.now(0, api.Call{Kind: api.Exit})
	is(api.Result{Steps: 1}, api.OK)
	v.steps(0)
	is(api.Result{Steps: 1}, api.OK)
}

// P16.3: all rows of bytes by some blocks, of none and of some, beside one another and apart, held and not.
func TestReadAndWrite(t *testing.T) {
	for _, n := range []uint64{0, 1, 5, 16} {
		v := upTwin(t, 5, 5, 2)
		addr := v.malloc(0, n)
		next := v.malloc(0, 16)
		v.malloc(0, 0)
		if next != addr+16 {
			v.fatal("not beside one another", addr, next)
		}
		for range 2 {
			for a := addr - 4; a < next+40; a++ {
				for k := range uint64(20) {
					v.reads(0, a, k)
					text := make([]byte, k)
					for i := range text {
						text[i] = byte(a)*3 + byte(i)*5 + byte(k)
					}
					v.writes(0, a, text...)
				}
				for _, k := range []uint64{1 << 32, 1<<32 + 1, 1 << 63, -a, -a + 1, -a + addr, addr - a, addr - a + n, greatest - 1, greatest} {
					v.reads(0, a, k)
				}
				v.sameBytes()
			}
			v.calls(1, api.Call{Kind: api.Free, Addr: addr})
		}
		v.same()
	}
}

// P16.3: each error by itself, in the order in which the chapter names them.
func TestReadErrors(t *testing.T) {
	v := upTwin(t, 7, 7, 2)
	a, b, huge := v.malloc(0, 100), v.malloc(0, 3000), v.malloc(0, 20000)
	for _, x := range []struct {
		addr, n uint64
		f       api.Errno
	}{
		{a, 0, api.OK}, {a, 100, api.OK}, {a, 101, api.ErrRange}, {a, greatest, api.ErrRange}, {a, -a, api.ErrRange},
		{a + 99, 0, api.OK}, {a + 99, 1, api.OK}, {a + 99, 2, api.ErrRange}, {a + 100, 0, api.ErrNone}, {a + 100, 1, api.ErrNone}, {a + 111, 0, api.ErrNone},
		{a - 1, 0, api.ErrNone}, {a - 1, 2, api.ErrNone}, {a + 50, 50, api.OK}, {a + 50, 51, api.ErrRange}, {a + 1, greatest, api.ErrRange},
		{b, 3000, api.OK}, {b, 3001, api.ErrRange}, {b + 2999, 1, api.OK}, {b + 3000, 0, api.ErrNone}, {b + 3071, 1, api.ErrNone}, {b + 1000, 2000, api.OK},
		{huge, 20000, api.OK}, {huge, 20001, api.ErrRange}, {huge + 16384, 3616, api.OK}, {huge + 16384, 3617, api.ErrRange}, {huge + 20000, 0, api.ErrNone},
		{0, 0, api.ErrNone}, {0, greatest, api.ErrNone}, {greatest, 1, api.ErrNone}, {greatest, 0, api.ErrNone}, {1 << 20, 1, api.ErrNone}, {a + 1<<32, 1, api.ErrNone},
	} {
		for th := range 2 {
			_, e := v.reads(th, x.addr, x.n)
			v.want("Read", e, x.f)
			if x.n <= 1<<20 {
				v.want("Write", v.writes(th, x.addr, bytes.Repeat([]byte{byte(x.n) | 1}, int(x.n))...), x.f)
			}
		}
		v.sameBytes()
	}
	v.calls(0, api.Call{Kind: api.Realloc, Addr: b, N: 1})
	for _, x := range []struct {
		addr, n uint64
		f       api.Errno
	}{{b, 0, api.ErrBusy}, {b, 3001, api.ErrBusy}, {b + 2999, 2, api.ErrBusy}, {b + 3000, 0, api.ErrNone}, {a, 1, api.OK}} {
		_, e := v.reads(1, x.addr, x.n)
		v.want("Read", e, x.f)
		v.want("Write", v.writes(1, x.addr, make([]byte, x.n)...), x.f)
	}
	v.same()
}

// What is read is new memory, its spare room too; what is written is neither changed nor kept.
func TestBytesAreNew(t *testing.T) {
	v := upTwin(t, 3, 3, 1)
	addr := v.malloc(0, 16)
	text := append(make([]byte, 0, 20), 1, 2, 3, 4, 5)
	copy(text[5:20], bytes.Repeat([]byte{9}, 15))
	v.writes(0, addr, text...)
	if !bytes.Equal(text[:20], append([]byte{1, 2, 3, 4, 5}, bytes.Repeat([]byte{9}, 15)...)) {
		t.Error("what was handed in", text[:20])
	}
	clear(text[:20])
	v.sameBytes()
	for n := range uint64(6) {
		b, _ := v.reads(0, addr, n)
		other, _ := v.reads(0, addr, n)
		for i := range b[:cap(b)] {
			b[:cap(b)][i] = 77
		}
		if v.sameBytes(); !bytes.Equal(other, []byte{1, 2, 3, 4, 5}[:n]) {
			t.Error("two answers share", other)
		}
	}
	before, _ := v.reads(0, addr, 5)
	v.writes(0, addr, 8, 8, 8)
	if !bytes.Equal(before, []byte{1, 2, 3, 4, 5}) {
		t.Error("what was read changed", before)
	}
}

// What is live is told in new memory, and threads to be started stay as they are.
func TestListsAreNew(t *testing.T) {
	v := newTwin(t, 3, 3, 3)
	l := []int{0, 1, 2}
	v.starts(l[:2]...)
	if !slices.Equal(l, []int{0, 1, 2}) {
		t.Error(l)
	}
	clear(l)
	v.same()
	for range 5 {
		v.malloc(0, 16)
		a, b := v.w.Live(), v.w.Live()
		want := slices.Clone(b)
		for i := range a[:cap(a)] {
			a[:cap(a)][i] = api.Block{Addr: 3}
		}
		_ = append(b, api.Block{Addr: 5})
		v.same()
		if !slices.Equal(b, want) {
			t.Error("two answers share", b)
		}
	}
}

// Two worlds have nothing of one another.
func TestTwoWorlds(t *testing.T) {
	a, b := upTwin(t, 3, 3, 2), newTwin(t, 3, 3, 2)
	addr := a.malloc(0, 16)
	b.same()
	b.starts(1)
	b.malloc(1, 16)
	b.writes(1, addr, 7)
	a.same()
	a.now(0, api.Call{Kind: api.Exit})
	b.same()
	a.same()
}

// The system is handed out as it is: what is done to it, the world's threads meet.
func TestSys(t *testing.T) {
	w, _ := world.New(4, 4, 1)
	w.Start(0)
	w.Sys().Arena().Refuse(true)
	w.Call(0, api.Call{Kind: api.Malloc, N: 16})
	for over := false; !over; {
		over, _ = w.Step(0)
	}
	if r, e := w.Result(0); r.Err != api.ErrFull || e != api.OK || len(w.Live()) != 0 {
		t.Error(r, e)
	}
	// Nor does it panic, if a block that is live is given back by the system alone.
	w.Sys().Arena().Refuse(false)
	malloc := api.Call{Kind: api.Malloc, N: 16}
	w.Call(0, malloc)
	for over := false; !over; {
		over, _ = w.Step(0)
	}
	f, _ := w.Sys().Begin(0, api.Call{Kind: api.Free, Addr: w.Live()[0].Addr})
	finish(f)
	for _, c := range []api.Call{malloc, {Kind: api.Free, Addr: w.Live()[0].Addr}, malloc} {
		w.Call(0, c)
		for over := false; !over; {
			var e api.Errno
			if over, e = w.Step(0); e != api.OK {
				t.Fatal(e)
			}
		}
	}
}

func finish(f *call.Frame) {
	for f.Step() {
	}
}
