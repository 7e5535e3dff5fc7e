package world_test

import (
	"bytes"
	"slices"
	"testing"

	"allotment/api"
	"allotment/call"
	"allotment/cell"
	"allotment/world"
)

// sitter is a thread as it is to be.
type sitter struct {
	started, over bool
	c             api.Call
	f             *call.Frame // of the other system; nil: it has no call
	results       []api.Result
}

// kept is a block that is to be handed out.
type kept struct {
	b    api.Block
	held bool
}

// twin is a world, and beside it a system that is driven without one, threads, and blocks in the order in which they came.
type twin struct {
	t     *testing.T
	w     *world.World
	s     *call.Sys
	sits  []*sitter
	kept  []kept
	done  []deed
	quiet bool // the memory is looked at only when it is asked for
}

// deed is a call that was made, told only if a test fails.
type deed struct {
	what string
	t    int
	x    any
}

func newTwin(t *testing.T, segs, limit, threads int) *twin {
	t.Helper()
	w, e := world.New(segs, limit, threads)
	s, f := call.New(segs, limit)
	if w == nil || e != api.OK || f != api.OK {
		t.Fatalf("New(%d, %d, %d): %t, error %d", segs, limit, threads, w != nil, e)
	}
	v := &twin{t: t, w: w, s: s}
	for range threads {
		v.sits = append(v.sits, &sitter{})
	}
	return v
}

// upTwin is one whose threads are all up.
func upTwin(t *testing.T, segs, limit, threads int) *twin {
	t.Helper()
	v := newTwin(t, segs, limit, threads)
	for i := range threads {
		v.want("Start", v.starts(i), api.OK)
	}
	return v
}

func (v *twin) fatal(what ...any) {
	v.t.Helper()
	for _, d := range v.done {
		v.t.Logf("%s %d %+v", d.what, d.t, d.x)
	}
	v.t.Fatal(what...)
}

func (v *twin) does(what string, t int, x any) { v.done = append(v.done, deed{what, t, x}) }

func (v *twin) want(what string, e, f api.Errno) {
	v.t.Helper()
	if e != f {
		v.fatal(what, "error", e, "wanted", f)
	}
}

// is says whether t is a thread.
func (v *twin) is(t int) bool { return t >= 0 && t < len(v.sits) }

// may is the error that all have that only a thread may do that is up.
func (v *twin) may(t int) api.Errno {
	switch {
	case !v.is(t):
		return api.ErrArg
	case !v.sits[t].started || v.sits[t].over:
		return api.ErrNone
	}
	return api.OK
}

// mayNow is the error that all have that only a thread may do that has no call.
func (v *twin) mayNow(t int) api.Errno {
	if e := v.may(t); e != api.OK {
		return e
	}
	if v.sits[t].f != nil {
		return api.ErrBusy
	}
	return api.OK
}

func (v *twin) starts(t ...int) api.Errno {
	v.t.Helper()
	v.does("Start", len(t), slices.Clone(t))
	f := api.OK
	for _, x := range t {
		if !v.is(x) {
			f = api.ErrArg
			break
		}
		if v.sits[x].started {
			f = api.ErrThere
			break
		}
		v.sits[x].started = true
	}
	v.want("Start", v.w.Start(t...), f)
	return f
}

// where is where a block stands that begins at an address; -1, if none does.
func (v *twin) where(addr uint64) int {
	return slices.IndexFunc(v.kept, func(k kept) bool { return k.b.Addr == addr })
}

// gives says whether a call gives a block back, or moves it.
func gives(c api.Call) bool { return c.Kind == 2 || c.Kind == 3 }

func (v *twin) calls(t int, c api.Call) api.Errno {
	v.t.Helper()
	v.does("Call", t, c)
	f := v.mayNow(t)
	at := v.where(c.Addr)
	switch {
	case f != api.OK:
	case c.Kind < 1 || c.Kind > 5:
		f = api.ErrArg
	case gives(c) && at < 0:
		f = api.ErrNone
	case gives(c) && v.kept[at].held:
		f = api.ErrBusy
	default:
		if gives(c) {
			v.kept[at].held = true
		}
		g, e := v.s.Begin(t, c)
		v.want("Begin", e, api.OK)
		v.sits[t].c, v.sits[t].f = c, g
	}
	v.want("Call", v.w.Call(t, c), f)
	return f
}

// steps is a step of both; it says whether the thread's call is over.
func (v *twin) steps(t int) (bool, api.Errno) {
	v.t.Helper()
	v.does("Step", t, "")
	f, over := v.may(t), false
	if f == api.OK && v.sits[t].f == nil {
		f = api.ErrIdle
	}
	if f == api.OK {
		s := v.sits[t]
		if !s.f.Step() {
			v.fatal("no step")
		}
		if over = s.f.Done(); over {
			v.ends(s)
		}
	}
	is, e := v.w.Step(t)
	v.want("Step", e, f)
	if is != over {
		v.fatal("Step", is, "wanted", over)
	}
	return is, e
}

// ends is what is to become of a thread, and of the blocks, when its call is over.
func (v *twin) ends(s *sitter) {
	v.t.Helper()
	r, at := s.f.Result(), v.where(s.c.Addr)
	s.f = nil
	s.results = append(s.results, r)
	well := r.Err == api.OK
	switch s.c.Kind {
	case 1:
		if well {
			v.gets(r.Addr, s.c.N, max(s.c.Align, 1))
		}
	case 2:
		v.kept = slices.Delete(v.kept, at, at+1)
	case 3:
		if well {
			v.kept = slices.Delete(v.kept, at, at+1)
			v.gets(r.Addr, s.c.N, 1)
		} else {
			v.kept[at].held = false
		}
	case 5:
		s.over = true
	}
}

// gets has a block be handed out, that is to be apart from all others.
func (v *twin) gets(addr, n, align uint64) {
	v.t.Helper()
	usable, e := v.s.Usable(addr)
	if e != api.OK || usable < max(n, 1) || addr%align != 0 {
		v.fatal("block at", addr, "usable", usable, "error", e)
	}
	for _, k := range v.kept {
		if other, _ := v.s.Usable(k.b.Addr); addr < k.b.Addr+other && k.b.Addr < addr+usable {
			v.fatal("block at", addr, "meets that at", k.b.Addr)
		}
	}
	v.kept = append(v.kept, kept{b: api.Block{Addr: addr, N: n, Align: align}})
}

// mayTouch is the error of a Read, or a Write.
func (v *twin) mayTouch(t int, addr, n uint64) api.Errno {
	if e := v.mayNow(t); e != api.OK {
		return e
	}
	for _, k := range v.kept {
		if addr < k.b.Addr || addr-k.b.Addr >= max(k.b.N, 1) {
			continue
		}
		switch {
		case k.held:
			return api.ErrBusy
		case n > k.b.N || addr-k.b.Addr > k.b.N-n:
			return api.ErrRange
		}
		return api.OK
	}
	return api.ErrNone
}

func (v *twin) reads(t int, addr, n uint64) ([]byte, api.Errno) {
	v.t.Helper()
	v.does("Read", t, []uint64{addr, n})
	f := v.mayTouch(t, addr, n)
	var text []byte
	if f == api.OK {
		text, _ = v.s.Mem().Get(addr, n)
	}
	b, e := v.w.Read(t, addr, n)
	v.want("Read", e, f)
	if !bytes.Equal(b, text) {
		v.fatal("Read", b, "wanted", text)
	}
	return b, e
}

func (v *twin) writes(t int, addr uint64, b ...byte) api.Errno {
	v.t.Helper()
	v.does("Write", t, []uint64{addr, uint64(len(b))})
	f := v.mayTouch(t, addr, uint64(len(b)))
	if f == api.OK {
		v.s.Mem().Put(addr, b...)
	}
	v.want("Write", v.w.Write(t, addr, b...), f)
	return f
}

// live are the blocks that are to be told, rising.
func (v *twin) live() []api.Block {
	var l []api.Block
	for _, k := range v.kept {
		l = append(l, k.b)
	}
	slices.SortFunc(l, func(a, b api.Block) int { return int(a.Addr) - int(b.Addr) })
	return l
}

// same holds all that is told of the world against what it is to be, and its system against the other one.
func (v *twin) same() {
	v.t.Helper()
	for t := -2; t < len(v.sits)+2; t++ {
		up, pending, last, e := false, false, api.Result{}, api.ErrArg
		if v.is(t) {
			s := v.sits[t]
			up, pending, e = s.started && !s.over, s.f != nil, api.ErrNone
			if n := len(s.results); n > 0 {
				last, e = s.results[n-1], api.OK
			}
		}
		if v.w.Up(t) != up || v.w.Pending(t) != pending {
			v.fatal("thread", t, "up", v.w.Up(t), "pending", v.w.Pending(t), "wanted", up, pending)
		}
		if r, f := v.w.Result(t); r != last || f != e {
			v.fatal("thread", t, "result", r, f, "wanted", last, e)
		}
	}
	if l := v.w.Live(); !slices.Equal(l, v.live()) {
		v.fatal("Live", l, "wanted", v.live())
	}
	if v.w.Threads() != len(v.sits) {
		v.fatal("Threads", v.w.Threads())
	}
	a, b := v.w.Sys(), v.s
	if !slices.Equal(a.Arena().Regions(), b.Arena().Regions()) || !slices.Equal(a.Stack().All(), b.Stack().All()) || cell.Asked(a.Stack().Cell()) != cell.Asked(b.Stack().Cell()) {
		v.fatal("arena", a.Arena().Regions(), "stack", a.Stack().All(), "wanted", b.Arena().Regions(), b.Stack().All())
	}
	for t := range 8 {
		g, _ := a.Heap(t)
		h, _ := b.Heap(t)
		if !slices.Equal(g.Pages(), h.Pages()) {
			v.fatal("thread", t, "pages", g.Pages(), "wanted", h.Pages())
		}
	}
	if !v.quiet {
		v.sameBytes()
	}
}

// sameBytes holds all memory against that of the other system.
func (v *twin) sameBytes() {
	v.t.Helper()
	a, _ := v.w.Sys().Mem().Get(0, v.w.Sys().Mem().Size())
	b, _ := v.s.Mem().Get(0, v.s.Mem().Size())
	if !bytes.Equal(a, b) {
		v.fatal("memory: of", len(a), "bytes, wanted", len(b))
	}
}

// alone takes a thread's call to its end, while all others stand.
func (v *twin) alone(t int) api.Result {
	v.t.Helper()
	for n := 0; ; n++ {
		if n > 40*66*66 {
			v.fatal("no end")
		}
		over, e := v.steps(t)
		v.want("Step", e, api.OK)
		if over {
			r, _ := v.w.Result(t)
			return r
		}
	}
}

// now is a call from its beginning to its end.
func (v *twin) now(t int, c api.Call) api.Result {
	v.t.Helper()
	v.want("Call", v.calls(t, c), api.OK)
	return v.alone(t)
}

// gives is a block that a thread asks for.
func (v *twin) malloc(t int, n uint64) uint64 {
	v.t.Helper()
	r := v.now(t, api.Call{Kind: api.Malloc, N: n})
	v.want("Malloc", r.Err, api.OK)
	return r.Addr
}
