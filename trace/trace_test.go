package trace_test

import (
	"math"
	"slices"
	"testing"

	"allotment/api"
	"allotment/cell"
	"allotment/trace"
	"allotment/world"
)

// The chapter's example: four steps of each, one by one.
func TestExamples(t *testing.T) {
	w, _ := world.New(4, 4, 2)
	w.Start(0, 1)
	for th := range 2 {
		if e := w.Call(th, api.Call{Kind: api.Malloc, N: 16}); e != api.OK {
			t.Fatalf("Call: error %d", e)
		}
	}
	if n, e := trace.Drain(w, 100); n != 8 || e != api.OK {
		t.Errorf("Drain: %d, error %d", n, e)
	}
	for th, r := range []api.Result{{Addr: 17408, Steps: 4}, {Addr: 33792, Steps: 4}} {
		if got, e := w.Result(th); got != r || e != api.OK {
			t.Errorf("thread %d: %+v, error %d", th, got, e)
		}
	}
}

// Of a nil World ErrNil, beside it zero, whatever else is handed in; nobody has a call, and no step is the most.
func TestNil(t *testing.T) {
	if l := trace.Busy(nil); len(l) != 0 {
		t.Error("Busy", l)
	}
	if n := trace.Bound(nil); n != 0 {
		t.Error("Bound", n)
	}
	if n, e := trace.Run(nil); n != 0 || e != api.ErrNil {
		t.Error("Run", n, e)
	}
	for _, x := range append(noThreads(), 0, 1, 7) {
		if n, e := trace.Run(nil, x); n != 0 || e != api.ErrNil {
			t.Error("Run", x, n, e)
		}
		if n, e := trace.Run(nil, 0, x, 0); n != 0 || e != api.ErrNil {
			t.Error("Run", x, n, e)
		}
		if n, e := trace.Drain(nil, x); n != 0 || e != api.ErrNil {
			t.Error("Drain", x, n, e)
		}
		for _, most := range []int{-1, 0, 1, math.MaxInt} {
			if r, e := trace.Alone(nil, x, most); r != (api.Result{}) || e != api.ErrNil {
				t.Error("Alone", x, most, r, e)
			}
		}
		for kind := -1; kind < 7; kind++ {
			if r, e := trace.Do(nil, x, api.Call{Kind: kind, N: 16}); r != (api.Result{}) || e != api.ErrNil {
				t.Error("Do", x, kind, r, e)
			}
		}
	}
}

// A World that New didn't make has no thread, and no memory; nothing panics.
func TestZeroWorld(t *testing.T) {
	w := &world.World{}
	if l, n := trace.Busy(w), trace.Bound(w); len(l) != 0 || n != 160 {
		t.Error(l, n)
	}
	if n, e := trace.Run(w); n != 0 || e != api.OK {
		t.Error("Run", n, e)
	}
	for _, x := range append(noThreads(), 0, 1, 7) {
		if n, e := trace.Run(w, x); n != 0 || e != api.ErrArg {
			t.Error("Run", x, n, e)
		}
		if n, e := trace.Drain(w, x); n != 0 || e != api.OK {
			t.Error("Drain", x, n, e)
		}
		if r, e := trace.Alone(w, x, 5); r != (api.Result{}) || e != api.ErrArg {
			t.Error("Alone", x, r, e)
		}
		if r, e := trace.Do(w, x, api.Call{Kind: api.Malloc}); r != (api.Result{}) || e != api.ErrArg {
			t.Error("Do", x, r, e)
		}
	}
}

// P17.1: any of eight threads have a call: those are told, rising, in new memory.
func TestBusy(t *testing.T) {
	for set := range 256 {
		p := upPair(t, 2, 2, 8)
		var want []int
		for th := 7; th >= 0; th-- {
			if set>>th&1 == 1 {
				p.calls(th, api.Call{Kind: api.Collect})
				want = append(want, th)
			}
		}
		slices.Sort(want)
		l, other := trace.Busy(p.w), trace.Busy(p.w)
		if !slices.Equal(l, want) {
			t.Fatal(l, "wanted", want)
		}
		for i := range l[:cap(l)] {
			l[:cap(l)][i] = 77
		}
		if !slices.Equal(other, want) || !slices.Equal(trace.Busy(p.w), want) {
			t.Fatal("two answers share", other)
		}
		p.same()
	}
}

// P17.1: from its call on, till that is over, a thread is told; ahead of its start, and behind its Exit, it isn't.
func TestBusyFromCallToEnd(t *testing.T) {
	p := newPair(t, 3, 3, 3)
	is := func(l ...int) {
		t.Helper()
		if got := trace.Busy(p.w); !slices.Equal(got, l) {
			p.fatal("Busy", got, "wanted", l)
		}
		p.same()
	}
	is()
	p.calls(1, api.Call{Kind: api.Malloc})
	is()
	p.starts(1)
	p.starts(2)
	is()
	p.calls(2, api.Call{Kind: api.Malloc, N: 16})
	is(2)
	for range 3 {
		p.runs(2)
		is(2)
	}
	p.calls(1, api.Call{Kind: api.Exit})
	is(1, 2)
	p.runs(2)
	is(1)
	p.runs(1)
	is()
	if p.w.Up(1) {
		p.fatal("not over")
	}
}

// P17.1: all short rows of picks, of threads that have a call, that have none, that aren't up, and of what is no thread.
func TestRunRows(t *testing.T) {
	picks := []int{0, 1, 2, 3, 4, -1}
	eachRow(len(picks), 5, func(row []int) {
		p := newPair(t, 3, 3, 4)
		for th := range 3 {
			p.starts(th)
		}
		p.calls(0, api.Call{Kind: api.Malloc, N: 20000})
		p.calls(1, api.Call{Kind: api.Malloc, N: 2000})
		var l []int
		for _, i := range row {
			l = append(l, picks[i])
		}
		p.runs(l...)
		p.same()
	})
}

// P17.1: Run by numbers: how many steps were done, those ahead of what is no thread, too; none of whoever has no call, none behind what is no thread.
func TestRun(t *testing.T) {
	for _, x := range []struct {
		picks  []int
		n      int
		f      api.Errno
		steps0 int // behind which thread 0's call is over, on top of those picked; it takes four
	}{
		{nil, 0, api.OK, 4},
		{[]int{0}, 1, api.OK, 3},
		{[]int{0, 0, 0}, 3, api.OK, 1},
		{[]int{0, 0, 0, 0}, 4, api.OK, 0},
		{[]int{0, 0, 0, 0, 0, 0}, 4, api.OK, 0},
		{[]int{1, 1, 1}, 0, api.OK, 4},
		{[]int{1, 0, 1, 0}, 2, api.OK, 2},
		{[]int{7, 0}, 1, api.OK, 3},
		{[]int{8}, 0, api.ErrArg, 4},
		{[]int{-1}, 0, api.ErrArg, 4},
		{[]int{0, 8}, 1, api.ErrArg, 3},
		{[]int{0, 0, -1, 0}, 2, api.ErrArg, 2},
		{[]int{0, 0, 0, 0, 0, 8}, 4, api.ErrArg, 0},
		{[]int{8, 0}, 0, api.ErrArg, 4},
		{[]int{math.MinInt, 0}, 0, api.ErrArg, 4},
		{[]int{0, math.MaxInt, 0}, 1, api.ErrArg, 3},
		{[]int{256, 0}, 0, api.ErrArg, 4},
		{[]int{1 << 32, 0}, 0, api.ErrArg, 4},
	} {
		w, _ := world.New(3, 3, 8)
		w.Start(0, 1)
		w.Call(0, api.Call{Kind: api.Malloc, N: 16})
		if n, e := trace.Run(w, x.picks...); n != x.n || e != x.f {
			t.Errorf("Run(%v): %d, error %d; wanted %d, error %d", x.picks, n, e, x.n, x.f)
		}
		if n, e := trace.Drain(w, 10); n != x.steps0 || e != api.OK {
			t.Errorf("Run(%v): %d steps were left; wanted %d", x.picks, n, x.steps0)
		}
	}
	for threads := 1; threads < 9; threads++ {
		p := upPair(t, 2, 2, threads)
		p.calls(0, api.Call{Kind: api.Malloc, N: 16})
		for _, x := range append(noThreads(), threads, threads+1) {
			if _, e := p.runs(x); e != api.ErrArg {
				t.Errorf("Run(%d) of %d threads: error %d", x, threads, e)
			}
			p.runs(threads-1, x, threads-1)
		}
		p.same()
	}
}

// P17.1: beside ErrArg the number is that of the steps which were done ahead of it, of all threads that were picked.
func TestRunTellsStepsAheadOfError(t *testing.T) {
	p := upPair(t, 8, 8, 3)
	for th := range 2 {
		p.calls(th, api.Call{Kind: api.Malloc, N: 16})
	}
	p.runs(1, 1, 2, 0, 1)
	if n, e := p.runs(1, 3, 1); n != 1 || e != api.ErrArg || p.w.Pending(1) || !p.w.Pending(0) {
		p.fatal("Run", n, e)
	}
	if n, e := p.runs(2, 0, 1, 0, -1, 0); n != 2 || e != api.ErrArg || !p.w.Pending(0) {
		p.fatal("Run", n, e)
	}
	p.same()
}

// P17.1: behind its Exit a thread is still one, that has no call.
func TestRunPastExit(t *testing.T) {
	p := upPair(t, 3, 3, 2)
	p.calls(0, api.Call{Kind: api.Exit})
	p.calls(1, api.Call{Kind: api.Collect})
	if n, e := p.runs(0, 0, 0, 1, 0, 1); n != 2 || e != api.OK || p.w.Up(0) {
		p.fatal("Run", n, e)
	}
	if n, e := p.drains(5); n != 0 || e != api.OK {
		p.fatal("Drain", n, e)
	}
	p.same()
}

// Picks stay as they are, their spare room, too.
func TestPicksStay(t *testing.T) {
	p := upPair(t, 3, 3, 3)
	p.calls(1, api.Call{Kind: api.Malloc, N: 16})
	l := []int{1, 0, 2, 1, 5, 6, 7}
	p.runs(l[:4]...)
	if !slices.Equal(l, []int{1, 0, 2, 1, 5, 6, 7}) {
		t.Error(l)
	}
	clear(l)
	p.same()
}

// P17.1: some threads have a call, of various lengths; however many steps are the most, those are done by turns, thread 0 first.
func TestDrain(t *testing.T) {
	malloc := func(n uint64) api.Call { return api.Call{Kind: api.Malloc, N: n} }
	for _, l := range []map[int]api.Call{
		{},
		{0: malloc(16)},
		{2: malloc(16)},
		{0: malloc(16), 1: malloc(16), 2: malloc(16)},
		{0: malloc(20000), 1: malloc(16), 2: malloc(2000)},
		{0: malloc(16), 1: malloc(2000), 2: malloc(20000)},
		{0: malloc(greatest), 2: malloc(16)},
		{0: {Kind: api.Collect}, 1: {Kind: api.Collect, Force: true}, 2: malloc(100)},
		{0: {Kind: api.Exit}, 1: malloc(16), 2: {Kind: api.Exit}},
	} {
		for most := -1; most < 16; most++ {
			p := newPair(t, 6, 6, 4)
			for th := range 3 {
				p.starts(th)
			}
			for th := range 3 {
				if c, ok := l[th]; ok {
					p.calls(th, c)
				}
			}
			n, e := p.drains(most)
			p.same()
			if n > max(most, 0) || e == api.ErrFull && n != max(most, 0) || (e == api.OK) != (len(trace.Busy(p.w)) == 0) {
				p.fatal("Drain", n, e)
			}
			if m, e := p.drains(math.MaxInt); e != api.OK || m > 12 {
				p.fatal("Drain", m, e)
			}
			p.same()
		}
	}
}

// P17.1: each Drain begins with thread 0: who stands behind it has no step, as long as it has one and one is the most.
func TestDrainThreadNoughtFirst(t *testing.T) {
	p := upPair(t, 4, 4, 3)
	for th := range 3 {
		p.calls(th, api.Call{Kind: api.Malloc, N: 16})
	}
	for i := range 12 {
		if n, e := p.drains(1); n != 1 || e != api.ErrFull && i < 11 {
			p.fatal("Drain", n, e)
		}
		if p.w.Pending(0) != (i < 3) || p.w.Pending(1) != (i < 7) || p.w.Pending(2) != (i < 11) {
			p.fatal("step", i, trace.Busy(p.w))
		}
		p.same()
	}
	if n, e := p.drains(1); n != 0 || e != api.OK {
		p.fatal("Drain", n, e)
	}
}

// P17.1: of no step, or fewer, none is done: ErrFull, if somebody has a call.
func TestDrainOfNone(t *testing.T) {
	for _, most := range few() {
		p := upPair(t, 3, 3, 2)
		if n, e := p.drains(most); n != 0 || e != api.OK {
			p.fatal("Drain", n, e)
		}
		p.calls(1, api.Call{Kind: api.Malloc, N: 16})
		if n, e := p.drains(most); n != 0 || e != api.ErrFull {
			p.fatal("Drain", n, e)
		}
		p.same()
		if n, e := p.drains(4); n != 4 || e != api.OK {
			p.fatal("Drain", n, e)
		}
	}
}

// P17.2: ErrArg ahead of ErrIdle, and that ahead of ErrFull; then nothing is done.
func TestAloneErrors(t *testing.T) {
	for threads := 1; threads < 9; threads++ {
		p := newPair(t, 3, 3, threads)
		is := func(th int, f api.Errno) {
			t.Helper()
			for _, most := range append(few(), 1, 100, math.MaxInt) {
				if r, e := p.alones(th, most); r != (api.Result{}) || e != f {
					p.fatal("Alone", th, most, r, e, "wanted", f)
				}
			}
			p.same()
		}
		others := func() {
			t.Helper()
			for _, th := range append(noThreads(), threads, threads+1) {
				is(th, api.ErrArg)
			}
		}
		others()
		is(0, api.ErrIdle)
		p.starts(0)
		is(0, api.ErrIdle)
		p.malloc(0, 16)
		is(0, api.ErrIdle)
		p.calls(0, api.Call{Kind: api.Exit})
		others()
		if threads > 1 {
			is(1, api.ErrIdle)
		}
		p.alones(0, 100)
		is(0, api.ErrIdle)
	}
}

// P17.2: of a call that takes so many steps, fewer are ErrFull, and done; so many, or more, are its result.
func TestAlone(t *testing.T) {
	for _, x := range []struct {
		c api.Call
		r api.Result
	}{
		{api.Call{Kind: api.Malloc, N: 2000}, api.Result{Addr: 33792, Steps: 3}},
		{api.Call{Kind: api.Malloc, N: 16}, api.Result{Addr: 33792, Steps: 4}},
		{api.Call{Kind: api.Malloc, N: 20000}, api.Result{Addr: 32768, Steps: 1}},
		{api.Call{Kind: api.Malloc, N: 1 << 21}, api.Result{Err: api.ErrArg, Steps: 1}},
		{api.Call{Kind: api.Malloc, N: 60000}, api.Result{Err: api.ErrFull, Steps: 1}},
		{api.Call{Kind: api.Free, Addr: 17408}, api.Result{Steps: 3}},
		{api.Call{Kind: api.Realloc, Addr: 17408, N: 9}, api.Result{Addr: 17408, Steps: 1}},
		{api.Call{Kind: api.Realloc, Addr: 17408, N: 2000}, api.Result{Addr: 33792, Steps: 8}},
		{api.Call{Kind: api.Realloc, Addr: 17408, N: greatest}, api.Result{Err: api.ErrArg, Steps: 1}},
		{api.Call{Kind: api.Collect}, api.Result{Steps: 1}},
		{api.Call{Kind: api.Exit}, api.Result{Steps: 1}},
	} {
		for most := range x.r.Steps + 3 {
			p := upPair(t, 4, 4, 3)
			p.malloc(0, 16)
			p.calls(2, api.Call{Kind: api.Malloc, N: 16})
			p.calls(1, x.c)
			want, f := x.r, api.OK
			if most < x.r.Steps {
				want, f = api.Result{}, api.ErrFull
			}
			if r, e := p.alones(1, most); r != want || e != f {
				p.fatal("Alone", r, e, "wanted", want, f)
			}
			if p.w.Pending(1) != (f != api.OK) || !p.w.Pending(2) {
				p.fatal("Busy", trace.Busy(p.w))
			}
			p.same()
			if f == api.OK {
				continue
			}
			if r, e := p.alones(1, x.r.Steps-most); r != x.r || e != api.OK {
				p.fatal("the rest of it:", r, e, "wanted", x.r)
			}
			p.same()
		}
	}
}

// P17.2: the bound hangs on the memory's segments alone, not on the limit, the threads, or what was done.
func TestBound(t *testing.T) {
	for segs := 2; segs <= 64; segs++ {
		for _, limit := range []int{1, 2, segs} {
			for _, threads := range []int{1, 8} {
				w, _ := world.New(segs, limit, threads)
				if n := trace.Bound(w); n != 40*(segs+2)*(segs+2) {
					t.Errorf("Bound of %d segments: %d", segs, n)
				}
			}
		}
	}
	w, _ := world.New(6, 5, 2)
	w.Start(0)
	trace.Do(w, 0, api.Call{Kind: api.Malloc, N: 40000})
	if n := trace.Bound(w); n != 2560 {
		t.Errorf("Bound: %d", n)
	}
}

// P17.2: each error of Call, and nothing is done then.
func TestDoErrors(t *testing.T) {
	p := newPair(t, 4, 4, 3)
	is := func(th int, c api.Call, f api.Errno) {
		t.Helper()
		if r, e := p.does(th, c); r != (api.Result{}) || e != f {
			p.fatal("Do", th, c, r, e, "wanted", f)
		}
		p.same()
	}
	malloc := api.Call{Kind: api.Malloc, N: 16}
	for _, x := range append(noThreads(), 3, 4) {
		is(x, malloc, api.ErrArg)
	}
	is(0, malloc, api.ErrNone)
	is(0, api.Call{}, api.ErrNone)
	p.starts(0)
	p.starts(1)
	for _, kind := range []int{0, -1, 6, 257, math.MaxInt, math.MinInt} {
		is(0, api.Call{Kind: kind, N: 16}, api.ErrArg)
	}
	addr := p.malloc(0, 16)
	for _, kind := range []int{api.Free, api.Realloc} {
		for _, x := range []uint64{0, 1, addr - 1, addr + 1, addr + 16, greatest} {
			is(0, api.Call{Kind: kind, Addr: x, N: 5}, api.ErrNone)
		}
	}
	p.calls(1, api.Call{Kind: api.Free, Addr: addr})
	is(0, api.Call{Kind: api.Free, Addr: addr}, api.ErrBusy)
	is(0, api.Call{Kind: api.Realloc, Addr: addr}, api.ErrBusy)
	is(1, malloc, api.ErrBusy)
	is(1, api.Call{}, api.ErrBusy)
	p.alones(1, 10)
	is(1, api.Call{Kind: api.Free, Addr: addr}, api.ErrNone)
	p.does(1, api.Call{Kind: api.Exit})
	is(1, malloc, api.ErrNone)
}

// P17.2: a call that has an error was done all the same: that is told by the result; no other thread has a step.
func TestDo(t *testing.T) {
	p := upPair(t, 5, 4, 2)
	is := func(c api.Call, r api.Result) {
		t.Helper()
		if got, e := p.does(0, c); got != r || e != api.OK {
			p.fatal("Do", c, got, e, "wanted", r)
		}
		p.same()
		if last, e := p.w.Result(0); last != r || e != api.OK || p.w.Pending(0) || !p.w.Pending(1) {
			p.fatal("Result", last, e, trace.Busy(p.w))
		}
	}
	p.calls(1, api.Call{Kind: api.Malloc, N: 16})
	p.runs(1, 1, 1)
	malloc := func(n uint64) api.Call { return api.Call{Kind: api.Malloc, N: n} }
	is(malloc(16), api.Result{Addr: 17408, Steps: 4})
	is(malloc(16), api.Result{Addr: 17424, Steps: 1})
	is(malloc(2000), api.Result{Addr: 18432, Steps: 1})
	is(malloc(20000), api.Result{Addr: 32768, Steps: 1})
	is(malloc(30000), api.Result{Err: api.ErrFull, Steps: 1})
	is(malloc(greatest), api.Result{Err: api.ErrArg, Steps: 1})
	is(api.Call{Kind: api.Malloc, N: 5, Align: 3}, api.Result{Err: api.ErrArg, Steps: 1})
	is(api.Call{Kind: api.Free, Addr: 17408}, api.Result{Steps: 1})
	is(api.Call{Kind: api.Realloc, Addr: 17424, N: 40}, api.Result{Addr: 20480, Steps: 5})
	is(api.Call{Kind: api.Realloc, Addr: 20480, N: greatest}, api.Result{Err: api.ErrArg, Steps: 1})
	is(api.Call{Kind: api.Free, Addr: 32768}, api.Result{Steps: 1})
	p.refuses(true)
	is(malloc(20000), api.Result{Err: api.ErrFull, Steps: 1})
	is(api.Call{Kind: api.Collect}, api.Result{Steps: 2})
	is(api.Call{Kind: api.Exit}, api.Result{Steps: 5})
	if p.w.Up(0) {
		p.fatal("not over")
	}
}

// P17.2: of a call that finds no end, since the stack was led round behind its back, Do does no more steps than the bound says, and no fewer.
func TestDoWithinBound(t *testing.T) {
	for _, segs := range []int{2, 5} {
		p := upPair(t, segs, segs, 2)
		for _, w := range []*world.World{p.w, p.by} {
			s := w.Sys().Stack()
			_, tag := s.Look()
			s.Put(1, 1, tag)
		}
		was := cell.Asked(p.w.Sys().Stack().Cell())
		if r, e := p.does(0, api.Call{Kind: api.Collect, Force: true}); r != (api.Result{}) || e != api.ErrFull || !p.w.Pending(0) {
			p.fatal("Do", r, e)
		}
		steps := 40 * (segs + 2) * (segs + 2)
		if n := cell.Asked(p.w.Sys().Stack().Cell()) - was; n != steps-steps/3 { // look, take, own: which asks no cell, since there is no segment
			p.fatal("asked", n, "wanted", steps-steps/3)
		}
		p.calls(1, api.Call{Kind: api.Malloc, N: 20000})
		if n, e := p.drains(1000); n != 1000 || e != api.ErrFull {
			p.fatal("Drain", n, e)
		}
		p.same()
	}
}

// Two worlds have nothing of one another.
func TestTwoWorlds(t *testing.T) {
	p, o := upPair(t, 3, 3, 2), upPair(t, 3, 3, 2)
	p.calls(0, api.Call{Kind: api.Malloc, N: 16})
	if l := trace.Busy(o.w); len(l) != 0 {
		t.Error(l)
	}
	o.malloc(1, 16)
	p.same()
	o.drains(5)
	p.drains(2)
	p.same()
	o.same()
}
