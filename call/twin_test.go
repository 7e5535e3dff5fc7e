package call_test

import (
	"bytes"
	"fmt"
	"iter"
	"slices"
	"strings"
	"testing"

	"allotment/api"
	"allotment/arena"
	"allotment/call"
	"allotment/cell"
	"allotment/class"
	"allotment/heap"
	"allotment/mem"
	"allotment/seg"
	"allotment/stack"
)

// told is the system as the chapter tells it, straight down: each call is one function, that stops ahead of each step.
type told struct {
	m      *mem.Mem
	a      *arena.Arena
	k      *stack.Stack
	heaps  []*heap.Heap
	huge   map[uint64]int
	nobody map[int]*seg.Segment
}

func newTold(t *testing.T, segs, limit int) *told {
	t.Helper()
	m, e := mem.New(uint64(segs) * 16384)
	a, f := arena.New(segs, limit)
	at, g := a.Reserve(1)
	if e != api.OK || f != api.OK || g != api.OK || at != 0 {
		t.Fatal(e, f, g, at)
	}
	w := &told{m: m, a: a, k: &stack.Stack{}, huge: map[uint64]int{}, nobody: map[int]*seg.Segment{}}
	for i := range uint64(8) {
		h, e := heap.New(m, a, i+1)
		if e != api.OK {
			t.Fatal(e)
		}
		w.heaps = append(w.heaps, h)
	}
	return w
}

// where is the segment, and the page, that an address is in.
func (w *told) where(addr uint64) (*seg.Segment, *seg.Owned) {
	var all []*seg.Segment
	for _, h := range w.heaps {
		all = append(all, h.Segs()...)
	}
	for place := range 64 {
		if g := w.nobody[place]; g != nil {
			all = append(all, g)
		}
	}
	for _, g := range all {
		if p, e := g.Find(addr); e == api.OK {
			return g, p
		}
	}
	return nil, nil
}

func (w *told) usable(addr uint64) uint64 {
	if n := w.huge[addr]; n > 0 {
		return uint64(n) * 16384
	}
	_, p := w.where(addr)
	if p == nil {
		return 0
	}
	if i, e := p.Run().Index(addr); e != api.OK || i >= p.Made() {
		return 0
	}
	return p.Run().Size
}

// adopt takes a segment that nobody has; false of none.
func (w *told) adopt(t int, step func(string)) bool {
	for {
		step("look")
		top, tag := w.k.Look()
		if top < 0 {
			return false
		}
		step("take")
		if is, _ := w.k.Take(top, tag); !is {
			continue
		}
		step("own")
		g := w.nobody[top]
		g.Owner().Store(uint64(t) + 1)
		if w.heaps[t].Adopt(g) == api.OK {
			delete(w.nobody, top)
		}
		for _, p := range g.Pages() {
			from := p.Run().From
			step("sweep")
			w.heaps[t].Gather(from)
		}
		return true
	}
}

func (w *told) malloc(t int, n, align uint64, step func(string)) (uint64, api.Errno) {
	h := w.heaps[t]
	p, e := class.For(n, max(align, 1))
	if e != api.OK {
		step("refuse")
		return 0, api.ErrArg
	}
	if p.Segs > 0 {
		step("huge")
		at, e := w.a.Reserve(p.Segs)
		if e != api.OK {
			return 0, e
		}
		addr := uint64(at) * 16384
		w.huge[addr] = p.Segs
		return addr, api.OK
	}
	for {
		if p.Class >= 0 {
			step("local")
			if addr, e := h.Local(p.Class); e == api.OK {
				return addr, api.OK
			}
			for _, from := range h.Pages(p.Class) {
				step("gather")
				if n, _ := h.Gather(from); n == 0 {
					continue
				}
				if addr, e := h.Local(p.Class); e == api.OK {
					return addr, api.OK
				}
			}
		}
		step("fresh")
		if addr, e := h.Fresh(p); e == api.OK {
			return addr, api.OK
		}
		if !w.adopt(t, step) {
			step("grow")
			if e := h.Grow(); e != api.OK {
				return 0, e
			}
			return h.Fresh(p)
		}
	}
}

func (w *told) free(t int, addr uint64, step func(string)) api.Errno {
	step("find")
	if w.huge[addr] > 0 {
		delete(w.huge, addr)
		return w.a.Release(int(addr / 16384))
	}
	g, p := w.where(addr)
	if p == nil {
		return api.ErrNone
	}
	if id, _ := g.Owner().Load(); id == uint64(t)+1 {
		return w.heaps[t].Free(addr)
	}
	for {
		step("head")
		first, tag := p.Cell().Load()
		step("post")
		if is, e := p.Post(addr, first, tag); is || e != api.OK {
			return e
		}
	}
}

func (w *told) realloc(t int, addr, n uint64, step func(string)) (uint64, api.Errno) {
	step("fit")
	had := w.usable(addr)
	if had == 0 {
		return 0, api.ErrNone
	}
	p, e := class.For(n, 1)
	if e != api.OK {
		return 0, api.ErrArg
	}
	if p.Usable == had {
		return addr, api.OK
	}
	to, e := w.malloc(t, n, 1, step)
	if e != api.OK {
		return 0, e
	}
	step("copy")
	w.m.Copy(to, addr, min(had, n))
	w.free(t, addr, step)
	return to, api.OK
}

func (w *told) collect(t int, force bool, step func(string)) {
	l := w.heaps[t].Pages()
	if len(l) == 0 && !force {
		step("rest")
		return
	}
	for _, from := range l {
		step("gather")
		w.heaps[t].Gather(from)
	}
	for force && w.adopt(t, step) {
	}
}

func (w *told) exit(t int, step func(string)) {
	h := w.heaps[t]
	l := h.Pages()
	if len(l) == 0 && len(h.Segs()) == 0 {
		step("rest")
		return
	}
	for _, from := range l {
		step("gather")
		h.Gather(from)
	}
	for len(h.Segs()) > 0 {
		step("disown")
		l := h.Segs()
		if len(l) == 0 {
			return // another call of the thread left the last one meanwhile
		}
		place := l[0].Place()
		l[0].Owner().Store(0)
		w.nobody[place], _ = h.Leave(place)
		for {
			step("top")
			top, tag := w.k.Look()
			step("put")
			if is, e := w.k.Put(place, top, tag); is || e == api.ErrThere {
				break
			}
		}
	}
}

// does is a call whole.
func (w *told) does(t int, c api.Call, step func(string)) (uint64, api.Errno) {
	switch c.Kind {
	case api.Malloc:
		addr, e := w.malloc(t, c.N, c.Align, step)
		if e == api.OK && c.Zero {
			w.m.Fill(addr, w.usable(addr))
		}
		return addr, e
	case api.Free:
		return 0, w.free(t, c.Addr, step)
	case api.Realloc:
		return w.realloc(t, c.Addr, c.N, step)
	case api.Collect:
		w.collect(t, c.Force, step)
	case api.Exit:
		w.exit(t, step)
	}
	return 0, api.OK
}

// tale is a call of a told system, that stands ahead of a step, or is over.
type tale struct {
	state  string
	result api.Result
	next   func() (string, bool)
	stop   func()
}

type stopped struct{}

func (w *told) begin(t int, c api.Call) *tale {
	f := &tale{}
	f.next, f.stop = iter.Pull(func(yield func(string) bool) {
		defer func() {
			if r := recover(); r != nil && r != any(stopped{}) {
				panic(r)
			}
		}()
		n := 0
		addr, e := w.does(t, c, func(state string) {
			if !yield(state) {
				panic(stopped{})
			}
			n++
		})
		f.result = api.Result{Addr: addr, Err: e, Steps: n}
	})
	f.step()
	return f
}

func (f *tale) step() {
	state, is := f.next()
	if !is {
		state = "done"
	}
	f.state = state
}

// deed is a step, or what was done beside steps; it is told only if a test fails.
type deed struct {
	t    int
	what string
	c    api.Call
}

// twin is a system, and a told one beside it, which is to be the same behind each step.
type twin struct {
	t     *testing.T
	s     *call.Sys
	w     *told
	calls []*running
	away  []*seg.Segment // those that were a heap's, and may be nobody's now
	done  []deed
	wild  bool // blocks are given back twice: who posts may have a page that is gone
}

// running is a call of both.
type running struct {
	t    int
	c    api.Call
	f    *call.Frame
	told *tale
	n    int
	tag  uint64 // of the word that it saw last
}

func newTwin(t *testing.T, segs, limit int) *twin {
	t.Helper()
	s, e := call.New(segs, limit)
	if s == nil || e != api.OK {
		t.Fatalf("New(%d, %d): %t, error %d", segs, limit, s != nil, e)
	}
	w := &twin{t: t, s: s, w: newTold(t, segs, limit)}
	t.Cleanup(w.stops)
	return w
}

// stops ends a twin: it has nothing any more, since the test keeps it to its end.
func (w *twin) stops() {
	for _, r := range w.calls {
		r.told.stop()
	}
	w.s, w.w, w.calls, w.away, w.done = nil, nil, nil, nil, nil
}

func (w *twin) fatalf(form string, x ...any) {
	w.t.Helper()
	l := w.done
	if len(l) > 400 {
		l = l[len(l)-400:]
	}
	for _, d := range l {
		if d.c == (api.Call{}) {
			w.t.Logf("thread %d: %s", d.t, d.what)
			continue
		}
		w.t.Logf("thread %d: %s %+v", d.t, d.what, d.c)
	}
	w.t.Fatalf(form, x...)
}

// begins begins a call of both.
func (w *twin) begins(t int, c api.Call) *running {
	w.t.Helper()
	w.done = append(w.done, deed{t, "begins", c})
	before, tellers := w.asked()
	f, e := w.s.Begin(t, c)
	if f == nil || e != api.OK {
		w.fatalf("Begin(%d, %+v): %t, error %d", t, c, f != nil, e)
	}
	if n := cell.Asked(tellers...); n != before {
		w.fatalf("Begin(%d, %+v) asked %d shared words", t, c, n-before)
	}
	r := &running{t: t, c: c, f: f, told: w.w.begin(t, c)}
	w.calls = append(w.calls, r)
	w.is(r)
	if f.Done() {
		w.fatalf("Begin(%d, %+v): over", t, c)
	}
	return r
}

// steps does a step of both, and says whether the call is over.
func (w *twin) steps(r *running) bool {
	w.t.Helper()
	was := r.told.state
	w.done = append(w.done, deed{r.t, was, api.Call{}})
	before, tellers := w.asked()
	if !r.f.Step() {
		w.fatalf("thread %d, %s: no step", r.t, was)
	}
	r.n++
	now, _ := w.asked(tellers...)
	r.told.step()
	w.is(r)
	if n := now - before; n != asks(was) && (n != 0 || !w.wild && !mayNot(was)) {
		w.fatalf("thread %d: %s asked %d shared words", r.t, was, n)
	}
	if !w.wild {
		w.late(r, was)
	}
	if !r.f.Done() {
		return false
	}
	w.ends(r)
	return true
}

// ends holds what is told of a call that is over, again and again.
func (w *twin) ends(r *running) {
	w.t.Helper()
	for range 2 {
		if r.f.Step() || !r.f.Done() || r.f.State() != "done" || r.f.Result() != r.told.result || r.f.Result().Steps != r.n {
			w.fatalf("thread %d, behind its last step: %s, %+v; wanted %+v, %d steps", r.t, r.f.State(), r.f.Result(), r.told.result, r.n)
		}
	}
	w.calls = slices.DeleteFunc(w.calls, func(o *running) bool { return o == r })
}

// is holds what a call tells of itself.
func (w *twin) is(r *running) {
	w.t.Helper()
	f, want := r.f, r.told
	var result api.Result
	if want.state == "done" {
		result = want.result
	}
	if f.State() != want.state || f.Done() != (want.state == "done") || f.Result() != result {
		w.fatalf("thread %d: state %q, over %t, %+v; wanted %q, %+v", r.t, f.State(), f.Done(), f.Result(), want.state, result)
	}
}

// asks is how many shared words a state asks.
func asks(state string) int {
	if strings.Contains(" gather look take own sweep grow find head post disown top put ", " "+state+" ") {
		return 1
	}
	return 0
}

// mayNot says whether a state may end ahead of the word that it asks: a page that isn't there, no segment that is given, a block that is huge or none.
func mayNot(state string) bool {
	return strings.Contains(" gather own sweep grow find post put disown ", " "+state+" ")
}

// late holds that who has to look again was overtaken: the word that he saw was written meanwhile.
func (w *twin) late(r *running, was string) {
	w.t.Helper()
	switch now := r.f.State(); was {
	case "look", "top":
		r.tag = tagOf(w.s.Stack().Cell())
	case "head":
		_, p := w.w.where(r.c.Addr)
		if p != nil {
			r.tag = tagOf(p.Cell())
		}
	case "take", "put":
		if (now == "look" || now == "top") && r.tag == tagOf(w.s.Stack().Cell()) {
			w.fatalf("thread %d: %s didn't go, but nobody was there", r.t, was)
		}
	case "post":
		_, p := w.w.where(r.c.Addr)
		if now == "head" && p != nil && r.tag == tagOf(p.Cell()) {
			w.fatalf("thread %d: %s didn't go, but nobody was there", r.t, was)
		}
	}
}

// tagOf looks at a copy of a cell, so that it isn't asked.
func tagOf(c *cell.Cell) uint64 {
	look := *c
	_, tag := look.Load()
	return tag
}

// asked is how often all shared words of the system, and some others, were asked; and which they are.
func (w *twin) asked(others ...*cell.Cell) (int, []*cell.Cell) {
	all := append(slices.Clone(others), w.s.Stack().Cell())
	for _, g := range w.segs() {
		all = append(all, g.Owner())
		for _, p := range g.Pages() {
			all = append(all, p.Cell())
		}
	}
	var each []*cell.Cell
	met := map[*cell.Cell]int{}
	for _, c := range all {
		if met[c]++; met[c] == 1 {
			each = append(each, c)
		}
	}
	return cell.Asked(each...), each
}

// segs are all segments, with those on their way, as long as the arena has them.
func (w *twin) segs() []*seg.Segment {
	var l []*seg.Segment
	for t := range 8 {
		h, e := w.s.Heap(t)
		if e != api.OK {
			w.fatalf("Heap(%d): error %d", t, e)
		}
		l = append(l, h.Segs()...)
	}
	for _, g := range w.away {
		if w.given(g.Place()) && !slices.ContainsFunc(l, func(o *seg.Segment) bool { return o.Place() == g.Place() }) {
			l = append(l, g)
		}
	}
	w.away = l
	return l
}

func (w *twin) given(place int) bool {
	return slices.Contains(w.s.Arena().Regions(), arena.Region{At: place, N: 1})
}

// same holds all that both tell.
func (w *twin) same() {
	w.t.Helper()
	a, _ := w.s.Mem().Get(0, w.s.Mem().Size())
	b, _ := w.w.m.Get(0, w.w.m.Size())
	if !bytes.Equal(a, b) {
		w.fatalf("memory differs")
	}
	if x, y := w.s.Arena().Regions(), w.w.a.Regions(); !slices.Equal(x, y) || w.s.Arena().Refused() != w.w.a.Refused() {
		w.fatalf("arena: %v, wanted %v; refused %d, wanted %d", x, y, w.s.Arena().Refused(), w.w.a.Refused())
	}
	if x, y := w.s.Stack().All(), w.w.k.All(); !slices.Equal(x, y) || *w.s.Stack().Cell() != *w.w.k.Cell() {
		w.fatalf("stack: %v, wanted %v", x, y)
	}
	for t := range 8 {
		h, _ := w.s.Heap(t)
		x, y := of(h), of(w.w.heaps[t])
		if x != y {
			w.fatalf("heap %d: %s; wanted %s", t, x, y)
		}
	}
}

// of is what a heap tells, as a text.
func of(h *heap.Heap) string {
	var b strings.Builder
	fmt.Fprint(&b, h.Pages())
	for _, g := range h.Segs() {
		fmt.Fprint(&b, " segment ", g.Place(), *g.Owner(), g.Left())
		for _, p := range g.Pages() {
			free, local, posted, e := p.Lists()
			fmt.Fprint(&b, " page ", p.Class, p.Run(), p.Used(), p.Made(), *p.Cell(), free, local, posted, e)
		}
	}
	return b.String()
}

// usables holds Usable at addresses.
func (w *twin) usables(l ...uint64) {
	w.t.Helper()
	for _, addr := range l {
		n, e := w.s.Usable(addr)
		want, f := w.w.usable(addr), api.OK
		if want == 0 {
			f = api.ErrNone
		}
		if n != want || e != f {
			w.fatalf("Usable(%d): %d, error %d; wanted %d, error %d", addr, n, e, want, f)
		}
	}
}

// refuses tells both arenas what to do next.
func (w *twin) refuses(l ...bool) {
	w.t.Helper()
	w.done = append(w.done, deed{what: fmt.Sprint("refuse ", l)})
	w.s.Arena().Refuse(l...)
	w.w.a.Refuse(l...)
}

// writes puts bytes in both memories.
func (w *twin) writes(addr uint64, b ...byte) {
	w.t.Helper()
	w.done = append(w.done, deed{what: fmt.Sprint("write ", addr, " ", len(b))})
	if e := w.s.Mem().Put(addr, b...); e != w.w.m.Put(addr, b...) {
		w.fatalf("Put(%d): error %d", addr, e)
	}
}

// runs takes a call alone to its end, with these states, and holds its result.
func (w *twin) runs(what string, r *running, states string, addr uint64, e api.Errno) {
	w.t.Helper()
	var got []string
	for !r.f.Done() {
		got = append(got, r.f.State())
		w.steps(r)
		w.same()
	}
	if s := strings.Join(got, " "); s != states {
		w.fatalf("%s: %s; wanted %s", what, s, states)
	}
	if want := (api.Result{Addr: addr, Err: e, Steps: r.n}); r.f.Result() != want || r.n < len(got) {
		w.fatalf("%s: %+v; wanted %+v", what, r.f.Result(), want)
	}
}

// goes takes a call some steps on, with these states, so that it isn't over.
func (w *twin) goes(r *running, states string) {
	w.t.Helper()
	for _, s := range strings.Fields(states) {
		if got := r.f.State(); got != s {
			w.fatalf("thread %d: %s; wanted %s", r.t, got, s)
		}
		w.steps(r)
		w.same()
	}
	if r.f.Done() {
		w.fatalf("thread %d, behind %s: over", r.t, states)
	}
}

func (w *twin) malloc(t int, n uint64, states string, addr uint64) uint64 {
	w.t.Helper()
	w.runs("malloc", w.begins(t, api.Call{Kind: api.Malloc, N: n}), states, addr, api.OK)
	if usable, e := w.s.Usable(addr); usable < n || e != api.OK {
		w.fatalf("Usable(%d): %d, error %d", addr, usable, e)
	}
	return addr
}

func (w *twin) mallocs(t int, n uint64, addrs ...uint64) {
	w.t.Helper()
	for _, addr := range addrs {
		w.malloc(t, n, "local", addr)
	}
}

func (w *twin) noMalloc(t int, n uint64, states string, e api.Errno) {
	w.t.Helper()
	w.runs("malloc", w.begins(t, api.Call{Kind: api.Malloc, N: n}), states, 0, e)
}

func (w *twin) free(t int, addr uint64, states string, e api.Errno) {
	w.t.Helper()
	w.runs("free", w.begins(t, api.Call{Kind: api.Free, Addr: addr}), states, 0, e)
}

// posts has a thread give back blocks of another one's pages.
func (w *twin) posts(t int, addrs ...uint64) {
	w.t.Helper()
	for _, addr := range addrs {
		w.free(t, addr, "find head post", api.OK)
	}
}

func (w *twin) realloc(t int, addr, n uint64, states string, to uint64, e api.Errno) {
	w.t.Helper()
	w.runs("realloc", w.begins(t, api.Call{Kind: api.Realloc, Addr: addr, N: n}), states, to, e)
}

func (w *twin) collect(t int, states string) {
	w.t.Helper()
	w.runs("collect", w.begins(t, api.Call{Kind: api.Collect}), states, 0, api.OK)
}

func (w *twin) force(t int, states string) {
	w.t.Helper()
	w.runs("collect of all", w.begins(t, api.Call{Kind: api.Collect, Force: true}), states, 0, api.OK)
}

func (w *twin) exit(t int, states string) {
	w.t.Helper()
	w.runs("exit", w.begins(t, api.Call{Kind: api.Exit}), states, 0, api.OK)
}

// has holds a heap's segments, and where its pages begin, against what is written out; each owner's word is the heap's number.
func (w *twin) has(t int, places []int, pages ...uint64) {
	w.t.Helper()
	h, _ := w.s.Heap(t)
	var got []int
	for _, g := range h.Segs() {
		got = append(got, g.Place())
		look := *g.Owner()
		if id, _ := look.Load(); id != uint64(t)+1 {
			w.fatalf("segment %d of heap %d: owner %d", g.Place(), t, id)
		}
	}
	if l := h.Pages(); !slices.Equal(got, places) || !slices.Equal(l, pages) {
		w.fatalf("heap %d: segments %v, pages %v; wanted %v, %v", t, got, l, places, pages)
	}
}

// nobody holds the stack against places that are written out, and how many segments are given.
func (w *twin) nobody(given int, places ...int) {
	w.t.Helper()
	if l, n := w.s.Stack().All(), w.s.Arena().Given(); !slices.Equal(l, places) || n != given {
		w.fatalf("stack %v, %d given; wanted %v, %d", l, n, places, given)
	}
}
