package call_test

import (
	"bytes"
	"fmt"
	"maps"
	"math/rand/v2"
	"slices"
	"testing"

	"allotment/api"
	"allotment/arena"
)

// block is one that is handed out, and what was written there.
type block struct {
	addr, usable uint64
	text         []byte
	held         bool // a call is under way that gives it back, or moves it
}

// house is a twin whose threads keep to the rules: each has one call at most, and gives back only what is live. All that is handed out is written whole, and read again.
type house struct {
	*twin
	segs int
	live map[uint64]*block
	name map[string]uint64
	on   [8]*running
	as   [8]string // what the block of a Malloc, or a Realloc, is to be called
	seed byte
}

func newHouse(t *testing.T, segs, limit int) *house {
	t.Helper()
	return &house{twin: newTwin(t, segs, limit), segs: segs, live: map[uint64]*block{}, name: map[string]uint64{}}
}

// does begins a call of a thread that has none.
func (h *house) does(t int, c api.Call, as string) {
	h.t.Helper()
	if b := h.live[c.Addr]; b != nil && (c.Kind == api.Free || c.Kind == api.Realloc) {
		h.reads(b)
		b.held = true
	}
	h.on[t], h.as[t] = h.begins(t, c), as
}

// turn is a step of a thread that has a call.
func (h *house) turn(t int) {
	h.t.Helper()
	r := h.on[t]
	refused := h.s.Arena().Refused()
	was := r.f.State()
	if !h.steps(r) {
		return
	}
	h.on[t] = nil
	a := r.f.Result()
	if a.Steps > h.bound() {
		h.fatalf("thread %d: %d steps", t, a.Steps)
	}
	if full := h.s.Arena().Refused() > refused; full != (a.Err == api.ErrFull) || full && was != "huge" && was != "grow" {
		h.fatalf("thread %d: %+v behind %s; refused %d, then %d", t, a, was, refused, h.s.Arena().Refused())
	}
	if a.Err != api.OK && a.Err != api.ErrFull || a.Err != api.OK && a.Addr != 0 {
		h.fatalf("thread %d: %+v", t, a)
	}
	switch r.c.Kind {
	case api.Malloc:
		if a.Err == api.OK {
			h.gets(r, a.Addr, r.c.N, max(r.c.Align, 1), nil)
		}
	case api.Realloc:
		h.moves(r, a)
	case api.Free:
		h.drops(r.c.Addr, a)
	default:
		if a != (api.Result{Steps: a.Steps}) {
			h.fatalf("thread %d: %+v", t, a)
		}
	}
}

func (h *house) drops(addr uint64, a api.Result) {
	h.t.Helper()
	if a.Err != api.OK || a.Addr != 0 {
		h.fatalf("free of %d: %+v", addr, a)
	}
	delete(h.live, addr)
}

func (h *house) moves(r *running, a api.Result) {
	h.t.Helper()
	old := h.live[r.c.Addr]
	if a.Err != api.OK {
		old.held = false
		h.reads(old)
		return
	}
	delete(h.live, old.addr)
	h.gets(r, a.Addr, r.c.N, 1, old.text[:min(old.usable, r.c.N)])
}

// gets holds a block that is handed out: it is apart from all others, at a right place, within what is given, and begins with a text, or is noughts, if it was asked to; then it is written whole.
func (h *house) gets(r *running, addr, n, align uint64, text []byte) {
	h.t.Helper()
	usable, e := h.s.Usable(addr)
	if e != api.OK || usable < n || usable < 1 || addr%align != 0 || addr < 16384 || addr+usable > h.s.Mem().Size() {
		h.fatalf("block at %d: %d bytes, error %d; wanted %d at a multiple of %d", addr, usable, e, n, align)
	}
	if !slices.ContainsFunc(h.s.Arena().Regions(), func(g arena.Region) bool {
		return uint64(g.At)*16384 <= addr && addr+usable <= uint64(g.At+g.N)*16384
	}) {
		h.fatalf("block at %d: %d bytes, that aren't given", addr, usable)
	}
	for _, b := range h.live {
		if addr < b.addr+b.usable && b.addr < addr+usable {
			h.fatalf("block at %d, of %d bytes, meets that at %d, of %d", addr, usable, b.addr, b.usable)
		}
	}
	had, _ := h.s.Mem().Get(addr, usable)
	if !bytes.HasPrefix(had, text) {
		h.fatalf("block at %d: what was there didn't move", addr)
	}
	if r.c.Kind == api.Malloc && r.c.Zero && !bytes.Equal(had, make([]byte, usable)) {
		h.fatalf("block at %d: not noughts", addr)
	}
	h.seed++
	b := &block{addr: addr, usable: usable, text: make([]byte, usable)}
	for i := range b.text {
		b.text[i] = byte(i)*3 + h.seed*29 + 1
	}
	h.writes(addr, b.text...)
	h.live[addr] = b
	if as := h.as[r.t]; as != "" {
		h.name[as] = addr
	}
}

// reads holds that what is in a block is what was written last.
func (h *house) reads(b *block) {
	h.t.Helper()
	if got, _ := h.s.Mem().Get(b.addr, b.usable); !bytes.Equal(got, b.text) {
		h.fatalf("block at %d: written over", b.addr)
	}
	if n, e := h.s.Usable(b.addr); n != b.usable || e != api.OK {
		h.fatalf("block at %d: usable %d, error %d; wanted %d", b.addr, n, e, b.usable)
	}
}

// whole reads all blocks that nobody gives back at the time, and holds both systems against one another.
func (h *house) whole() {
	h.t.Helper()
	for _, b := range h.live {
		if !b.held {
			h.reads(b)
		}
	}
	h.same()
}

// bound is how many steps a call alone has at most.
func (h *house) bound() int { return 40 * (h.segs + 2) * (h.segs + 2) }

// alone takes a thread's call to its end, while all others stand.
func (h *house) alone(t int) {
	h.t.Helper()
	for n := 0; h.on[t] != nil; n++ {
		if n > h.bound() {
			h.fatalf("thread %d: alone not over within %d steps", t, n)
		}
		h.turn(t)
	}
}

// now is a call from its beginning to its end.
func (h *house) now(t int, c api.Call, as string) {
	h.t.Helper()
	h.does(t, c, as)
	h.alone(t)
}

// addresses are those of what is live and not held, rising.
func (h *house) addresses() []uint64 {
	var l []uint64
	for _, addr := range slices.Sorted(maps.Keys(h.live)) {
		if !h.live[addr].held {
			l = append(l, addr)
		}
	}
	return l
}

// rests ends all: all calls, by some thread all that is live, by each thread what was posted; a Collect of all leaves nothing then.
func (h *house) rests(pick func(n int) int) {
	h.t.Helper()
	for t := range 8 {
		h.alone(t)
	}
	h.whole()
	for l := h.addresses(); len(l) > 0; l = h.addresses() {
		h.now(pick(8), api.Call{Kind: api.Free, Addr: l[pick(len(l))]}, "")
	}
	for t := range 8 {
		h.now(t, api.Call{Kind: api.Collect}, "")
	}
	h.now(pick(8), api.Call{Kind: api.Collect, Force: true}, "")
	h.whole()
	h.nobody(1)
	for t := range 8 {
		h.has(t, nil)
	}
}

// act is what a thread does, of a block by its name.
type act struct {
	kind  int
	n     uint64
	block string
	force bool
}

// scene is some threads that do one thing behind the other each, once others were done.
type scene struct {
	segs, limit int
	before      []act // all of thread 0
	threads     [][]act
}

// call is an act, as a call; false, if its block isn't there, since there was no memory.
func (h *house) call(a act) (api.Call, string, bool) {
	c := api.Call{Kind: a.kind, N: a.n, Force: a.force}
	if a.kind == api.Malloc {
		return c, a.block, true
	}
	c.Addr = h.name[a.block]
	b := h.live[c.Addr]
	return c, a.block, a.block == "" || b != nil && !b.held
}

// plays a scene once, in turns that pick tells, of so many threads that can be picked; it says how it ended.
func (s scene) plays(t *testing.T, pick func(n int) int) {
	t.Helper()
	h := newHouse(t, s.segs, s.limit)
	defer h.stops()
	for _, a := range s.before {
		c, as, _ := h.call(a)
		h.now(0, c, as)
	}
	var next [8]int
	for {
		var can []int
		for th, l := range s.threads {
			if h.on[th] != nil || next[th] < len(l) {
				can = append(can, th)
			}
		}
		if len(can) == 0 {
			break
		}
		th := can[pick(len(can))]
		if h.on[th] == nil {
			a := s.threads[th][next[th]]
			next[th]++
			c, as, is := h.call(a)
			if !is {
				continue
			}
			h.does(th, c, as)
		}
		h.turn(th)
	}
	h.rests(func(n int) int { return (n - 1) / 2 })
}

// allTurns plays a scene in all turns, and says in how many.
func (s scene) allTurns(t *testing.T) int {
	t.Helper()
	var picked, of []int
	for n := 1; ; n++ {
		at := 0
		s.plays(t, func(n int) int {
			if at == len(picked) {
				picked, of = append(picked, 0), append(of, n)
			}
			at++
			return picked[at-1]
		})
		last := len(picked) - 1
		for last >= 0 && picked[last] == of[last]-1 {
			last--
		}
		if last < 0 {
			return n
		}
		picked, of = picked[:last+1], of[:last+1]
		picked[last]++
	}
}

// full is four blocks of a page of 256 bytes each, of a thread.
func full(names ...string) []act {
	var l []act
	for _, x := range names {
		l = append(l, act{kind: api.Malloc, n: 256, block: x})
	}
	return l
}

// P14.3, P1 to P4: in all turns of some calls, and in many of more, what is handed out is apart, what is read is what was written last, who is late was overtaken, and at rest nothing is left.
func TestTurns(t *testing.T) {
	m := func(n uint64, as string) act { return act{kind: api.Malloc, n: n, block: as} }
	f := func(as string) act { return act{kind: api.Free, block: as} }
	re := func(as string, n uint64) act { return act{kind: api.Realloc, n: n, block: as} }
	collect, force, exit := act{kind: api.Collect}, act{kind: api.Collect, force: true}, act{kind: api.Exit}
	const all = 0 // else so many turns, of more than can be played
	for _, x := range []struct {
		what        string
		turns       int
		segs, limit int
		before      []act
		threads     [][]act
	}{
		{"two threads begin", all, 4, 3, nil, [][]act{{m(16, ""), m(2000, "")}, {m(16, ""), m(2000, "")}}},
		{"two threads, memory for one", all, 4, 2, nil, [][]act{{m(16, "x"), f("x")}, {m(2000, "")}}},
		{"two threads post", all, 4, 4, full("a", "b", "c"), [][]act{nil, {f("a")}, {f("b")}}},
		{"two threads post all, and one gathers", all, 4, 4, full("a", "b"), [][]act{{collect, m(256, "")}, {f("a")}, {f("b")}}},
		{"two threads post, and one frees", all, 4, 4, full("a", "b", "c"), [][]act{{f("c"), collect}, {f("a")}, {f("b")}}},
		{"one posts, and one gathers what it needs", all, 4, 4, full("a", "b", "c", "d"), [][]act{{m(256, ""), m(256, "")}, {f("a"), f("c")}}},
		{"one exits, one posts", all, 4, 4, full("a", "b"), [][]act{{exit}, {f("a"), f("b")}}},
		{"one exits, one adopts", all, 4, 4, full("a", "b"), [][]act{{exit}, {m(256, "")}}},
		{"one exits, one collects all", all, 4, 4, []act{m(9000, "a"), m(9000, "b")}, [][]act{{exit}, {force}}},
		{"two exit", all, 4, 4, nil, [][]act{{m(9000, "a"), exit}, {m(9000, "b"), exit}}},
		{"two take what one left", all, 4, 4, append(full("a", "b"), exit), [][]act{{m(16, "")}, {m(2000, "")}}},
		{"one takes what one left, one posts", all, 4, 4, append(full("a", "b"), exit), [][]act{{m(16, "")}, {f("b")}}},
		{"one moves what one exits from", all, 5, 5, full("a", "b"), [][]act{{exit}, {re("a", 300)}}},
		{"one moves, one posts, one gathers", all, 5, 5, full("a", "b"), [][]act{{collect}, {re("a", 20000)}, {f("b")}}},
		{"huge ones", all, 6, 4, []act{m(20000, "a")}, [][]act{{m(20000, "x"), m(16384, "y"), f("x")}, {f("a"), m(16384, "z")}, {m(16384, "u"), f("u")}}},
		{"three threads, memory for two", 400, 4, 3, nil, [][]act{{m(16, "")}, {m(16, "")}, {m(20, "")}}},
		{"three threads post what one needs", 400, 4, 4, full("a", "b", "c", "d"), [][]act{{m(256, ""), m(256, "")}, {f("a"), f("c")}, {f("b")}, {f("d")}}},
		{"one exits, one posts, one adopts", 400, 4, 4, full("a", "b"), [][]act{{exit}, {f("a")}, {m(256, "")}, {f("b")}}},
		{"one exits with two segments, three adopt", 400, 5, 5, []act{m(9000, "a"), m(9000, "b")}, [][]act{{exit}, {m(3000, "")}, {force}, {m(16, ""), exit}}},
		{"three take what one left", 400, 4, 4, append(full("a", "b"), exit), [][]act{{m(16, ""), f("a")}, {m(256, "")}, {f("b")}, {force}}},
		{"all that was left was posted", 400, 4, 4, append(full("a", "b"), exit), [][]act{{force}, {f("a"), m(16, "")}, {f("b")}}},
		{"three move", 400, 5, 4, append(full("a", "b"), m(2000, "c")), [][]act{{re("c", 16), collect}, {re("a", 300)}, {re("b", 17000), exit}}},
	} {
		s := scene{segs: x.segs, limit: x.limit, before: x.before, threads: x.threads}
		n := x.turns
		if n == all {
			n = s.allTurns(t)
		} else {
			r := rand.New(rand.NewPCG(14, uint64(len(x.what))))
			for range n {
				s.plays(t, r.IntN)
			}
		}
		t.Logf("%s: %d turns", x.what, n)
	}
}

// anySize is what a malloc of the long turns asks for.
func anySize(r *rand.Rand, segs int) uint64 {
	switch r.IntN(12) {
	case 0:
		return r.Uint64N(15361)
	case 1:
		return 1025 + r.Uint64N(4096)
	case 2:
		return 15361 + r.Uint64N(uint64(segs)*8192)
	case 3, 4, 5:
		return r.Uint64N(1025)
	}
	return []uint64{16, 48, 256, 512, 1024}[r.IntN(5)]
}

// anyCall is a call that a thread may do.
func (h *house) anyCall(r *rand.Rand) api.Call {
	l := h.addresses()
	n := anySize(r, h.segs)
	switch k := r.IntN(20); {
	case k < 8:
		return api.Call{Kind: api.Malloc, N: n, Align: []uint64{0, 1, 8, 16, 64, 1024}[r.IntN(6)], Zero: r.IntN(3) == 0}
	case k < 14 && len(l) > 0:
		return api.Call{Kind: api.Free, Addr: l[r.IntN(len(l))]}
	case k < 17 && len(l) > 0:
		return api.Call{Kind: api.Realloc, Addr: l[r.IntN(len(l))], N: n}
	case k < 18:
		return api.Call{Kind: api.Collect, Force: r.IntN(2) == 0}
	case k < 19:
		return api.Call{Kind: api.Exit}
	}
	return api.Call{Kind: api.Malloc, N: n}
}

// P14.3, P1 to P4: likewise in long turns of eight threads, of systems of few segments and of many.
func TestLongTurns(t *testing.T) {
	for i, x := range []struct{ segs, limit, steps int }{{2, 2, 1000}, {3, 3, 2000}, {4, 3, 2000}, {5, 5, 3000}, {8, 8, 4000}, {12, 10, 5000}, {24, 24, 5000}, {64, 64, 5000}} {
		for round := range 3 {
			r := rand.New(rand.NewPCG(uint64(i), uint64(round)))
			h := newHouse(t, x.segs, x.limit)
			for n := range x.steps {
				th := r.IntN(8)
				if round == 1 && r.IntN(3) > 0 {
					th = r.IntN(2) // some are slow
				}
				if h.on[th] == nil {
					h.does(th, h.anyCall(r), "")
				}
				switch {
				case r.IntN(50) == 0:
					h.alone(th)
				default:
					h.turn(th)
				}
				if r.IntN(100) == 0 {
					h.refuses(r.IntN(2) == 0, r.IntN(2) == 0)
				}
				if n%100 == 0 {
					h.whole()
				}
			}
			h.rests(r.IntN)
			h.stops()
		}
	}
}

// Each call ends, and none panics, whatever is asked for: blocks that are no blocks, or given back already, and several calls of a thread at once; both systems do the same.
func TestWild(t *testing.T) {
	for round := range 150 {
		r := rand.New(rand.NewPCG(41, uint64(round)))
		w := newTwin(t, 2+r.IntN(5), 2)
		w.wild = true
		segs := int(w.s.Mem().Size() / 16384)
		addrs := []uint64{0, 16384, 17408, 17409, 18432, 33792, 32768, 1 << 40}
		for range 400 {
			if len(w.calls) < 12 && r.IntN(3) == 0 {
				kind := 1 + r.IntN(5)
				if kind >= 4 && r.IntN(2) == 0 {
					kind = 1
				}
				w.begins(r.IntN(3), api.Call{
					Kind:  kind,
					Addr:  addrs[r.IntN(len(addrs))],
					N:     anySize(r, segs),
					Align: []uint64{0, 1, 3, 64, 2048}[r.IntN(5)],
					Zero:  r.IntN(2) == 0,
					Force: r.IntN(2) == 0,
				})
			}
			if len(w.calls) == 0 {
				continue
			}
			c := w.calls[r.IntN(len(w.calls))]
			if w.steps(c) {
				if a := c.f.Result(); a.Err == api.OK && a.Addr > 0 {
					addrs = append(addrs, a.Addr, a.Addr+8)
				}
				w.same()
			}
			if r.IntN(20) == 0 {
				w.usables(addrs[r.IntN(len(addrs))])
			}
			if r.IntN(200) == 0 {
				w.writes(addrs[r.IntN(len(addrs))], byte(r.Uint32()), byte(r.Uint32()))
			}
		}
		for i := 0; len(w.calls) > 0; i++ {
			if i > 200000 {
				w.fatalf("no end: %s", fmt.Sprint(len(w.calls)))
			}
			w.steps(w.calls[0])
		}
		w.same()
		w.stops()
	}
}
