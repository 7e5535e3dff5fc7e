package trace_test

import (
	"bytes"
	"math"
	"slices"
	"testing"

	"allotment/api"
	"allotment/cell"
	"allotment/trace"
	"allotment/world"
)

const greatest = 1<<64 - 1

// pair is two worlds to which the same is done: to the first one by this layer, to the second one by single steps.
type pair struct {
	t     *testing.T
	w, by *world.World
	segs  int
	done  []deed
}

// deed is a call that was made, told only if a test fails.
type deed struct {
	what string
	x    any
}

func newPair(t *testing.T, segs, limit, threads int) *pair {
	t.Helper()
	w, e := world.New(segs, limit, threads)
	by, f := world.New(segs, limit, threads)
	if e != api.OK || f != api.OK {
		t.Fatalf("New(%d, %d, %d): errors %d, %d", segs, limit, threads, e, f)
	}
	return &pair{t: t, w: w, by: by, segs: segs}
}

// upPair is one whose threads are all up.
func upPair(t *testing.T, segs, limit, threads int) *pair {
	t.Helper()
	p := newPair(t, segs, limit, threads)
	for th := range threads {
		p.starts(th)
	}
	return p
}

func (p *pair) fatal(what ...any) {
	p.t.Helper()
	for _, d := range p.done {
		p.t.Logf("%s %+v", d.what, d.x)
	}
	p.t.Fatal(what...)
}

func (p *pair) notes(what string, x any) { p.done = append(p.done, deed{what, x}) }

func (p *pair) starts(t int) {
	p.t.Helper()
	p.notes("Start", t)
	if e, f := p.w.Start(t), p.by.Start(t); e != f {
		p.fatal("Start", e, f)
	}
}

func (p *pair) calls(t int, c api.Call) api.Errno {
	p.t.Helper()
	p.notes("Call", []any{t, c})
	e, f := p.w.Call(t, c), p.by.Call(t, c)
	if e != f {
		p.fatal("Call", e, f)
	}
	return e
}

// refuses has the arena of both refuse.
func (p *pair) refuses(no ...bool) {
	p.notes("Refuse", no)
	p.w.Sys().Arena().Refuse(no...)
	p.by.Sys().Arena().Refuse(no...)
}

// is says whether t is a thread.
func (p *pair) is(t int) bool { return t >= 0 && t < p.by.Threads() }

// busy are the threads that are to have a call.
func (p *pair) busy() []int {
	var l []int
	for t := range 8 {
		if p.by.Pending(t) {
			l = append(l, t)
		}
	}
	return l
}

// bound is how many steps are to be the most.
func (p *pair) bound() int { return 40 * (p.segs + 2) * (p.segs + 2) }

func (p *pair) runs(picks ...int) (int, api.Errno) {
	p.t.Helper()
	p.notes("Run", slices.Clone(picks))
	n, f := 0, api.OK
	for _, t := range picks {
		if !p.is(t) {
			f = api.ErrArg
			break
		}
		if _, e := p.by.Step(t); e == api.OK {
			n++
		}
	}
	got, e := trace.Run(p.w, picks...)
	if got != n || e != f {
		p.fatal("Run", got, e, "wanted", n, f)
	}
	return got, e
}

func (p *pair) drains(most int) (int, api.Errno) {
	p.t.Helper()
	p.notes("Drain", most)
	n, f := 0, api.OK
	for t := 0; n < most && len(p.busy()) > 0; t = (t + 1) % p.by.Threads() {
		if p.by.Pending(t) {
			p.by.Step(t)
			n++
		}
	}
	if len(p.busy()) > 0 {
		f = api.ErrFull
	}
	got, e := trace.Drain(p.w, most)
	if got != n || e != f {
		p.fatal("Drain", got, e, "wanted", n, f)
	}
	return got, e
}

// finishes is what is to become of a thread's call within so many single steps.
func (p *pair) finishes(t, most int) (api.Result, api.Errno) {
	p.t.Helper()
	for n := 0; n < most; n++ {
		if p.by.Step(t); !p.by.Pending(t) {
			return p.by.Result(t)
		}
	}
	return api.Result{}, api.ErrFull
}

func (p *pair) alones(t, most int) (api.Result, api.Errno) {
	p.t.Helper()
	p.notes("Alone", []int{t, most})
	r, f := api.Result{}, api.OK
	switch {
	case !p.is(t):
		f = api.ErrArg
	case !p.by.Pending(t):
		f = api.ErrIdle
	default:
		r, f = p.finishes(t, most)
	}
	got, e := trace.Alone(p.w, t, most)
	if got != r || e != f {
		p.fatal("Alone", got, e, "wanted", r, f)
	}
	return got, e
}

func (p *pair) does(t int, c api.Call) (api.Result, api.Errno) {
	p.t.Helper()
	p.notes("Do", []any{t, c})
	r, f := api.Result{}, p.by.Call(t, c)
	if f == api.OK {
		r, f = p.finishes(t, p.bound())
	}
	got, e := trace.Do(p.w, t, c)
	if got != r || e != f {
		p.fatal("Do", got, e, "wanted", r, f)
	}
	return got, e
}

// malloc is a block that a thread asks for.
func (p *pair) malloc(t int, n uint64) uint64 {
	p.t.Helper()
	r, e := p.does(t, api.Call{Kind: api.Malloc, N: n})
	if e != api.OK || r.Err != api.OK {
		p.fatal("Malloc", r, e)
	}
	return r.Addr
}

// same holds all that is told of the first world against the second one.
func (p *pair) same() {
	p.t.Helper()
	a, b := p.w, p.by
	for t := -2; t < 10; t++ {
		r, e := a.Result(t)
		x, f := b.Result(t)
		if a.Up(t) != b.Up(t) || a.Pending(t) != b.Pending(t) || r != x || e != f {
			p.fatal("thread", t, a.Up(t), a.Pending(t), r, e, "wanted", b.Up(t), b.Pending(t), x, f)
		}
	}
	if l := trace.Busy(a); !slices.Equal(l, p.busy()) {
		p.fatal("Busy", l, "wanted", p.busy())
	}
	if n := trace.Bound(a); n != p.bound() {
		p.fatal("Bound", n, "wanted", p.bound())
	}
	if !slices.Equal(a.Live(), b.Live()) {
		p.fatal("Live", a.Live(), "wanted", b.Live())
	}
	s, o := a.Sys(), b.Sys()
	if !slices.Equal(s.Arena().Regions(), o.Arena().Regions()) || s.Arena().Refused() != o.Arena().Refused() {
		p.fatal("arena", s.Arena().Regions(), "wanted", o.Arena().Regions())
	}
	if !slices.Equal(s.Stack().All(), o.Stack().All()) || cell.Asked(s.Stack().Cell()) != cell.Asked(o.Stack().Cell()) {
		p.fatal("stack", s.Stack().All(), "wanted", o.Stack().All())
	}
	for t := range 8 {
		g, _ := s.Heap(t)
		h, _ := o.Heap(t)
		if !slices.Equal(g.Pages(), h.Pages()) {
			p.fatal("thread", t, "pages", g.Pages(), "wanted", h.Pages())
		}
	}
	l, _ := s.Mem().Get(0, s.Mem().Size())
	m, _ := o.Mem().Get(0, o.Mem().Size())
	if !bytes.Equal(l, m) {
		p.fatal("memory")
	}
}

// noThreads are numbers that no thread has, of however many.
func noThreads() []int {
	return []int{-1, -2, 8, 9, 16, 255, 256, 257, 1 << 31, 1 << 32, 1<<32 + 1, -1 << 31, -1 << 32, math.MaxInt, math.MaxInt - 1, math.MinInt, math.MinInt + 1}
}

// few are numbers that are no steps at all.
func few() []int { return []int{0, -1, -2, -1 << 31, -1 << 32, math.MinInt, math.MinInt + 1} }

// eachRow hands on all rows of numbers below n that are at most so long.
func eachRow(n, long int, yield func([]int)) {
	var on func([]int)
	on = func(row []int) {
		yield(row)
		if len(row) == long {
			return
		}
		for i := range n {
			on(append(row, i))
		}
	}
	on(nil)
}
