package world_test

import (
	"bytes"
	"fmt"
	"math/rand/v2"
	"slices"
	"testing"

	"allotment/api"
)

// eachRow hands on all rows of numbers below n that are at most so long; it goes on from a row only if that is wished.
func eachRow(n, long int, yield func([]int) bool) {
	var on func([]int)
	on = func(row []int) {
		if !yield(row) || len(row) == long {
			return
		}
		for i := range n {
			on(append(row, i))
		}
	}
	on(nil)
}

// P16.1 to P16.4: all short rows of what two threads do, of one block and of another, in a world where there is memory for little.
func TestShortRows(t *testing.T) {
	const a, b = 17408, 17424
	deeds := []func(*twin){
		func(v *twin) { v.starts(1, 0) },
		func(v *twin) { v.calls(0, api.Call{Kind: api.Malloc, N: 5}) },
		func(v *twin) { v.calls(1, api.Call{Kind: api.Malloc, N: 9000}) },
		func(v *twin) { v.calls(0, api.Call{Kind: api.Free, Addr: a}) },
		func(v *twin) { v.calls(1, api.Call{Kind: api.Free, Addr: a}) },
		func(v *twin) { v.calls(1, api.Call{Kind: api.Realloc, Addr: a, N: 16}) },
		func(v *twin) { v.calls(0, api.Call{Kind: api.Realloc, Addr: b, N: 30000}) },
		func(v *twin) { v.calls(0, api.Call{Kind: api.Exit}) },
		func(v *twin) { v.steps(0) },
		func(v *twin) { v.steps(1) },
		func(v *twin) { v.finishes(0) },
		func(v *twin) { v.finishes(1) },
		func(v *twin) { v.writes(0, a+4, 7) },
		func(v *twin) { v.writes(1, b, 8, 9) },
		func(v *twin) { v.reads(1, a+3, 2) },
	}
	for _, x := range []struct {
		before func(*twin)
		long   int
	}{
		{func(*twin) {}, 3},
		{func(v *twin) { v.starts(0, 1) }, 3},
		{func(v *twin) { v.starts(0, 1); v.malloc(0, 5); v.malloc(0, 16) }, 4},
		{func(v *twin) { v.starts(0, 1); v.malloc(0, 5); v.calls(1, api.Call{Kind: api.Free, Addr: a}) }, 3},
		{func(v *twin) {
			v.starts(0, 1)
			v.malloc(0, 5)
			v.malloc(0, 16)
			v.calls(1, api.Call{Kind: api.Realloc, Addr: a, N: 400})
		}, 3},
	} {
		eachRow(len(deeds), x.long, func(row []int) bool {
			v := newTwin(t, 3, 3, 2)
			v.quiet = len(row) == x.long && x.long > 3
			x.before(v)
			for _, i := range row {
				deeds[i](v)
			}
			v.same()
			return true
		})
	}
}

// finishes takes a thread's call to its end, if it has one.
func (v *twin) finishes(t int) {
	v.t.Helper()
	for v.w.Pending(t) {
		v.steps(t)
	}
}

// anySize is what is asked for in the long turns.
func anySize(r *rand.Rand, segs int) uint64 {
	switch r.IntN(12) {
	case 0:
		return r.Uint64N(15361)
	case 1:
		return 1025 + r.Uint64N(4096)
	case 2:
		return 15361 + r.Uint64N(uint64(segs)*8192)
	case 3, 4, 5:
		return r.Uint64N(1025)
	case 6:
		return []uint64{0, 0, 1 << 21, greatest}[r.IntN(4)]
	}
	return []uint64{16, 48, 256, 512, 1024}[r.IntN(5)]
}

// anyAddr is where a block is that is live, mostly, or was, or beside one.
func (v *twin) anyAddr(r *rand.Rand) uint64 {
	if len(v.kept) == 0 || r.IntN(10) == 0 {
		return []uint64{0, 16384, 17408, 17424, 18432, 33792, greatest, r.Uint64N(v.s.Mem().Size())}[r.IntN(8)]
	}
	addr := v.kept[r.IntN(len(v.kept))].b.Addr
	if r.IntN(10) == 0 {
		addr += r.Uint64N(5) - 2
	}
	return addr
}

// anyCall is a call, mostly one that may be.
func (v *twin) anyCall(r *rand.Rand, segs int) api.Call {
	c := api.Call{Addr: v.anyAddr(r), N: anySize(r, segs), Align: []uint64{0, 1, 8, 16, 64, 1024, 3, 2048}[r.IntN(8)], Zero: r.IntN(3) == 0, Force: r.IntN(2) == 0}
	switch k := r.IntN(40); {
	case k < 17:
		c.Kind = api.Malloc
	case k < 29:
		c.Kind = api.Free
	case k < 35:
		c.Kind = api.Realloc
	case k < 38:
		c.Kind = api.Collect
	case k < 39:
		c.Kind = noKinds()[r.IntN(len(noKinds()))]
	default:
		c.Kind = api.Exit
	}
	return c
}

// touch reads, or writes, some bytes somewhere.
func (v *twin) touch(r *rand.Rand, t int) {
	v.t.Helper()
	addr := v.anyAddr(r) + r.Uint64N(8)
	n := r.Uint64N(24)
	if r.IntN(2) == 0 {
		v.reads(t, addr, n)
		return
	}
	text := make([]byte, n)
	for i := range text {
		text[i] = byte(r.Uint32())
	}
	v.writes(t, addr, text...)
}

// P16.1 to P16.4: long turns of up to eight threads, which ask for what may be and what may not, in worlds of few segments and of many; those that are over are never up again.
func TestLongTurns(t *testing.T) {
	for i, x := range []struct{ segs, limit, threads, steps int }{{2, 1, 1, 300}, {2, 2, 2, 1500}, {4, 4, 3, 3000}, {6, 5, 8, 4000}, {16, 14, 8, 5000}, {64, 64, 8, 5000}} {
		for round := range 6 {
			r := rand.New(rand.NewPCG(uint64(i), uint64(round)))
			v := newTwin(t, x.segs, x.limit, x.threads)
			v.quiet = true
			if round > 2 {
				for th := range x.threads {
					v.starts(th)
				}
			}
			for n := range x.steps {
				th := r.IntN(x.threads+2) - 1
				switch k := r.IntN(30); {
				case k < 8:
					c := v.anyCall(r, x.segs)
					if c.Kind != api.Exit || r.IntN(10) == 0 {
						v.calls(th, c)
					}
				case k < 11:
					v.touch(r, th)
				case k < 12:
					v.finishes(th)
				case k < 13 && n%7 == 0:
					v.starts(th, r.IntN(x.threads))
				default:
					v.steps(th)
				}
				if n%20 == 0 {
					v.same()
				}
				if n%200 == 0 {
					v.sameBytes()
				}
			}
			v.same()
			v.sameBytes()
		}
	}
}

// user is what a thread knows of a block that it asked for: what it wrote there.
type user struct {
	addr uint64
	text []byte
}

// P16.4, P1: by what the world itself tells alone: of all who ask for a block at once, one has it; what is read is what was written last, wherever a block moves; what is live never meets.
func TestWrittenLast(t *testing.T) {
	for round := range 12 {
		r := rand.New(rand.NewPCG(77, uint64(round)))
		v := upTwin(t, 20, 20, 8)
		v.quiet = true
		var live []user
		asked := map[int]user{}
		for n := range 3000 {
			th := r.IntN(8)
			if !v.w.Pending(th) {
				v.asks(r, th, &live, asked)
			}
			over, e := v.steps(th)
			v.want("Step", e, api.OK)
			if !over {
				continue
			}
			u := asked[th]
			delete(asked, th)
			a, _ := v.w.Result(th)
			if a.Err != api.OK {
				if u.text != nil {
					live = append(live, u)
				}
				continue
			}
			if a.Addr == 0 {
				continue
			}
			live = append(live, v.writesAnew(r, th, a.Addr, u.text))
			if n%50 == 0 {
				v.readsAll(th, live)
			}
		}
		v.same()
	}
}

// asks begins a call of a thread; who is to give a block back, or to move it, has it from live, and no other thread gets it any more.
func (v *twin) asks(r *rand.Rand, t int, live *[]user, asked map[int]user) {
	v.t.Helper()
	if len(*live) == 0 || r.IntN(2) == 0 {
		v.want("Malloc", v.calls(t, api.Call{Kind: api.Malloc, N: 1 + r.Uint64N(1200)}), api.OK)
		return
	}
	i := r.IntN(len(*live))
	u := (*live)[i]
	*live = slices.Delete(*live, i, i+1)
	c := api.Call{Kind: api.Free, Addr: u.addr}
	if r.IntN(2) == 0 {
		c.Kind, c.N = api.Realloc, uint64(max(len(u.text)+r.IntN(600)-200, 1))
		asked[t] = u
	}
	v.want("Call", v.calls(t, c), api.OK)
	for other := range 8 {
		if !v.w.Pending(other) {
			v.want("Call", v.calls(other, api.Call{Kind: 2 + other%2, Addr: u.addr, N: 5}), api.ErrBusy)
		}
	}
}

// writesAnew holds what a new block has against what it is to have, and writes it whole.
func (v *twin) writesAnew(r *rand.Rand, t int, addr uint64, text []byte) user {
	v.t.Helper()
	l := v.w.Live()
	i := slices.IndexFunc(l, func(b api.Block) bool { return b.Addr == addr })
	if i < 0 {
		v.fatal("not live", addr)
	}
	got, e := v.w.Read(t, addr, l[i].N)
	if n := min(len(got), len(text)); e != api.OK || !bytes.Equal(got[:n], text[:n]) {
		v.fatal("moved", addr, e)
	}
	u := user{addr, make([]byte, l[i].N)}
	for i := range u.text {
		u.text[i] = byte(r.Uint32())
	}
	v.want("Write", v.writes(t, addr, u.text...), api.OK)
	return u
}

func (v *twin) readsAll(t int, live []user) {
	v.t.Helper()
	for _, u := range live {
		if got, e := v.w.Read(t, u.addr, uint64(len(u.text))); e != api.OK || !bytes.Equal(got, u.text) {
			v.fatal("written over", u.addr, e)
		}
	}
	l := v.w.Live()
	for i := range l[1:] {
		if l[i].Addr+max(l[i].N, 1) > l[i+1].Addr {
			v.fatal("they meet", fmt.Sprint(l[i], l[i+1]))
		}
	}
}

// P16.4: of several threads that give one block back, or move it, in whatever order they come, one does.
func TestGivenBackOnce(t *testing.T) {
	kinds := []int{api.Free, api.Realloc}
	eachRow(4, 4, func(row []int) bool {
		for _, kind := range kinds {
			v := upTwin(t, 6, 6, 4)
			addr := v.malloc(3, 100)
			done := 0
			for i, th := range row {
				if v.calls(th, api.Call{Kind: kinds[(i+kind)%2], Addr: addr, N: 300}) == api.OK {
					done++
				}
				if i == 2 {
					v.finishes(row[0])
				}
			}
			if len(row) > 0 && done != 1 {
				v.fatal("given back", done)
			}
			v.same()
		}
		return true
	})
}

// P16.2, P3: others stand: a call alone is over all the same, wherever they are.
func TestOthersStand(t *testing.T) {
	for round := range 40 {
		r := rand.New(rand.NewPCG(5, uint64(round)))
		v := upTwin(t, 8, 8, 8)
		v.quiet = true
		for range 150 {
			th := r.IntN(7)
			if v.mayNow(th) == api.OK {
				v.calls(th, v.anyCall(r, 8))
			}
			v.steps(th)
		}
		for _, c := range []api.Call{{Kind: api.Malloc, N: 16}, {Kind: api.Malloc, N: 3000}, {Kind: api.Collect, Force: true}, {Kind: api.Exit}} {
			if a := v.now(7, c); a.Steps > 40*10*10 || a.Err != api.OK && a.Err != api.ErrFull {
				v.fatal("result", a)
			}
		}
		v.same()
	}
}
