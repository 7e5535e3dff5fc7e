package trace_test

import (
	"math/rand/v2"
	"testing"

	"allotment/api"
	"allotment/trace"
	"allotment/world"
)

// anyThread is one, mostly.
func (p *pair) anyThread(r *rand.Rand) int {
	if r.IntN(30) == 0 {
		return noThreads()[r.IntN(len(noThreads()))]
	}
	return r.IntN(p.by.Threads())
}

// anyCall is a call, mostly one that may be.
func (p *pair) anyCall(r *rand.Rand) api.Call {
	c := api.Call{Kind: 1 + r.IntN(4), N: r.Uint64N(1 + []uint64{16, 600, 4000, 40000}[r.IntN(4)]), Align: []uint64{0, 1, 16, 512, 3}[r.IntN(5)], Zero: r.IntN(3) == 0, Force: r.IntN(2) == 0}
	switch r.IntN(60) {
	case 0:
		c.Kind = r.IntN(10) - 2
	case 1:
		c.Kind = api.Exit
	case 2:
		c.N = greatest
	}
	if l := p.by.Live(); len(l) > 0 && r.IntN(20) > 0 {
		c.Addr = l[r.IntN(len(l))].Addr
	}
	return c
}

// anyTurn is something done by this layer, mostly of threads that have calls.
func (p *pair) anyTurn(r *rand.Rand) {
	p.t.Helper()
	switch r.IntN(12) {
	case 0, 1, 2, 3:
		var picks []int
		for range r.IntN(10) {
			picks = append(picks, p.anyThread(r))
		}
		p.runs(picks...)
	case 4:
		p.drains(r.IntN(20) - 2)
	case 5:
		p.alones(p.anyThread(r), r.IntN(12)-2)
	case 6:
		p.alones(p.anyThread(r), p.bound())
	case 7:
		p.does(p.anyThread(r), p.anyCall(r))
	case 8:
		p.starts(r.IntN(p.by.Threads()))
	default:
		p.calls(p.anyThread(r), p.anyCall(r))
	}
}

// P17.1, P17.2: long rows of all that this layer does, beside single steps that are to be the same.
func TestLongTurns(t *testing.T) {
	for i, x := range []struct{ segs, limit, threads, turns int }{{2, 1, 1, 60}, {2, 2, 2, 300}, {4, 4, 3, 600}, {6, 5, 8, 800}, {16, 14, 8, 800}, {64, 64, 8, 400}} {
		for round := range 6 {
			r := rand.New(rand.NewPCG(uint64(i), uint64(round)))
			p := newPair(t, x.segs, x.limit, x.threads)
			for n := range x.turns {
				p.anyTurn(r)
				if n%20 == 0 {
					p.same()
				}
				if n%100 == 0 {
					p.refuses(r.IntN(2) == 0, r.IntN(2) == 0)
				}
			}
			p.drains(p.bound())
			p.same()
		}
	}
}

// jumble is a world whose threads stand anywhere within calls.
func jumble(t *testing.T, r *rand.Rand, segs, threads, turns int) *world.World {
	t.Helper()
	p := upPair(t, segs, segs, threads)
	for range turns {
		for range 3 {
			th := r.IntN(threads)
			if c := p.anyCall(r); c.Kind != api.Exit || r.IntN(3) == 0 {
				p.calls(th, c)
			}
		}
		var picks []int
		for range r.IntN(12) {
			picks = append(picks, r.IntN(threads))
		}
		p.runs(picks...)
	}
	return p.w
}

// P17.3: a call alone is over within the bound, wherever others stand: those that stand themselves, one behind the other, and new ones.
func TestAloneIsOver(t *testing.T) {
	for round := range 60 {
		r := rand.New(rand.NewPCG(17, uint64(round)))
		segs, threads := []int{2, 3, 6, 20}[round%4], 2+r.IntN(7)
		w := jumble(t, r, segs, threads, 30+r.IntN(60))
		for range 2 * threads {
			th := r.IntN(threads)
			if w.Pending(th) && r.IntN(3) > 0 {
				if a, e := trace.Alone(w, th, trace.Bound(w)); e != api.OK || a.Steps < 1 {
					t.Fatalf("round %d: Alone(%d): %+v, error %d", round, th, a, e)
				}
			}
			for _, c := range []api.Call{{Kind: api.Malloc, N: 16}, {Kind: api.Malloc, N: 3000}, {Kind: api.Collect, Force: true}} {
				a, e := trace.Do(w, th, c)
				if e == api.ErrFull || e == api.OK && a.Steps > trace.Bound(w) {
					t.Fatalf("round %d: Do(%d, %+v): %+v, error %d", round, th, c, a, e)
				}
			}
		}
	}
}

// P17.3: by turns all calls are over within the bound, times the square of how many threads there are.
func TestTurnsAreOver(t *testing.T) {
	for round := range 80 {
		r := rand.New(rand.NewPCG(18, uint64(round)))
		segs, threads := []int{2, 3, 6, 20}[round%4], 2+r.IntN(7)
		w := jumble(t, r, segs, threads, 30+r.IntN(60))
		for th := range threads {
			w.Call(th, api.Call{Kind: []int{1, 4, 4, 5}[r.IntN(4)], N: 1 + r.Uint64N(3000), Force: true})
		}
		busy := len(trace.Busy(w))
		n, e := trace.Drain(w, trace.Bound(w)*threads*threads)
		if e != api.OK || n < busy || len(trace.Busy(w)) != 0 {
			t.Fatalf("round %d: Drain: %d, error %d, of %d threads", round, n, e, threads)
		}
	}
}

// fill has a thread ask for blocks of one size till there is memory for no more.
func fill(t *testing.T, w *world.World, th int, n uint64) {
	t.Helper()
	for {
		r, e := trace.Do(w, th, api.Call{Kind: api.Malloc, N: n})
		if e != api.OK {
			t.Fatalf("Do: error %d", e)
		}
		if r.Err != api.OK {
			return
		}
	}
}

// abandoned is a world full of blocks of one size: so many segments, that nobody has, and the others, that thread 1 has.
func abandoned(t *testing.T, segs, left int, n uint64) *world.World {
	t.Helper()
	w, _ := world.New(segs, segs, 8)
	w.Start(0, 1, 2, 3, 4, 5, 6, 7)
	a := w.Sys().Arena()
	at, e := a.Reserve(segs - 1 - left)
	fill(t, w, 0, n)
	if e == api.OK {
		a.Release(at)
		fill(t, w, 1, n)
	}
	if r, e := trace.Do(w, 0, api.Call{Kind: api.Exit}); e != api.OK || len(w.Sys().Stack().All()) != left {
		t.Fatalf("Exit: %+v, error %d; %d segments", r, e, len(w.Sys().Stack().All()))
	}
	return w
}

// P17.3: the longest calls there are: of segments that nobody has, full of pages, each is taken, and each page asked behind it, while others stand within the same.
func TestLongestCalls(t *testing.T) {
	const segs = 16
	for _, n := range []uint64{16, 48, 1000, 1025} {
		for _, left := range []int{2, segs / 2, segs - 1} {
			w := abandoned(t, segs, left, n)
			for th := 2; th < 8; th++ {
				w.Call(th, api.Call{Kind: api.Malloc, N: n})
				if trace.Run(w, th, th); n <= api.MaxSmall {
					trace.Run(w, th) // a class has a state more ahead of what is seen, and not taken yet
				}
			}
			r, e := trace.Do(w, 1, api.Call{Kind: api.Malloc, N: n})
			if e != api.OK || r.Err != api.ErrFull || r.Steps < 5*left || len(w.Sys().Stack().All()) != 0 {
				t.Fatalf("Do: %+v, error %d", r, e)
			}
			w.Call(1, api.Call{Kind: api.Exit})
			if n, e := trace.Drain(w, trace.Bound(w)*64); e != api.OK || n < 5*left {
				t.Fatalf("Drain: %d, error %d", n, e)
			}
		}
	}
}

// P17.3: the longest turns: all but one thread ask for the segments that nobody has at once, and none finds room.
func TestLongestTurns(t *testing.T) {
	for segs := 2; segs < 17; segs++ {
		for _, n := range []uint64{16, 1025} {
			w := abandoned(t, segs, segs-1, n)
			for th := 1; th < 8; th++ {
				w.Call(th, api.Call{Kind: api.Malloc, N: n})
			}
			if n, e := trace.Drain(w, trace.Bound(w)*64); e != api.OK || n < 8*segs {
				t.Fatalf("Drain: %d, error %d", n, e)
			}
			for th := 1; th < 8; th++ {
				if r, e := w.Result(th); r.Err != api.ErrFull || e != api.OK {
					t.Fatalf("thread %d: %+v, error %d", th, r, e)
				}
			}
			for th := 1; th < 8; th++ {
				w.Call(th, api.Call{Kind: api.Exit})
			}
			if n, e := trace.Drain(w, trace.Bound(w)*64); e != api.OK || n < 3*segs || len(w.Sys().Stack().All()) != segs-1 {
				t.Fatalf("Drain: %d, error %d", n, e)
			}
		}
	}
}
