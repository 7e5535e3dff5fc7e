package call

import (
	"allotment/api"
	"allotment/class"
	"allotment/seg"
)

// refuse is of a Malloc that has no plan.
func (f *Frame) refuse() string { return f.fail(api.ErrArg) }

// huge asks the arena for segments that are the block's alone.
func (f *Frame) huge() string { return f.made(f.s.reserve(f.plan.Segs)) }

// local asks the pages that the heap has. If none gives a block, what others posted on them may.
func (f *Frame) local() string {
	addr, e := f.h.Local(f.plan.Class)
	if e == api.OK {
		return f.made(addr, e)
	}
	f.pages = f.h.Pages(f.plan.Class)
	return f.gatherOn()
}

// gather takes back what others posted on a page; a Malloc goes on only if it gets no block by that.
func (f *Frame) gather() string {
	n := f.gatherNext()
	if f.mallocs() && n > 0 {
		if addr, e := f.h.Local(f.plan.Class); e == api.OK {
			return f.made(addr, e)
		}
	}
	return f.gatherOn()
}

// fresh asks for a new page in a segment that the heap has.
func (f *Frame) fresh() string {
	addr, e := f.h.Fresh(f.plan)
	if e == api.OK {
		return f.made(addr, e)
	}
	return toLook
}

// look sees whether there is a segment that nobody has.
func (f *Frame) look() string {
	f.seen, f.tag = f.s.stack.Look()
	switch {
	case f.seen != none:
		return toTake
	case f.mallocs():
		return toGrow
	}
	return over
}

// take takes the segment that was seen, if nobody else was there meanwhile.
func (f *Frame) take() string {
	if went, _ := f.s.stack.Take(f.seen, f.tag); went {
		return toOwn
	}
	return toLook
}

// own has the segment that was taken be the heap's. (One that the system doesn't know was put on the stack behind its back: there is nothing to own then.)
func (f *Frame) own() string {
	g := f.s.nobody[f.seen]
	g.Owner().Store(f.id)
	if f.h.Adopt(g) == api.OK {
		f.s.nobody[f.seen] = nil
	}
	f.pages = begins(g)
	return f.sweepOn()
}

// sweep takes back what others posted on a page of the segment while nobody had it.
func (f *Frame) sweep() string {
	f.gatherNext()
	return f.sweepOn()
}

// grow asks the arena for a segment more, and that for a page.
func (f *Frame) grow() string {
	if e := f.h.Grow(); e != api.OK {
		return f.fail(e)
	}
	return f.made(f.h.Fresh(f.plan))
}

// find sees where a block is, and gives it back, if that is the thread's to do.
func (f *Frame) find() string {
	if at, ok := f.s.hugeAt(f.c.Addr); ok {
		return f.freed(f.s.release(at))
	}
	g, p := f.s.find(f.c.Addr)
	if p == nil {
		return f.freed(api.ErrNone)
	}
	if id, _ := g.Owner().Load(); id == f.id {
		return f.freed(f.h.Free(f.c.Addr))
	}
	f.page = p
	return toHead
}

// head sees what others posted on the block's page.
func (f *Frame) head() string {
	f.first, f.tag = f.page.Cell().Load()
	return toPost
}

// post puts the block ahead of that, if nobody else was there meanwhile.
func (f *Frame) post() string {
	went, e := f.page.Post(f.c.Addr, f.first, f.tag)
	if went || e != api.OK {
		return f.freed(e)
	}
	return toHead
}

// fit leaves the block where it is, if one of so many bytes would be as great.
func (f *Frame) fit() string {
	usable, e := f.s.Usable(f.c.Addr)
	if e != api.OK {
		return f.fail(e)
	}
	plan, e := class.For(f.c.N, leastAlign)
	if e != api.OK {
		return f.fail(e)
	}
	if plan.Usable == usable {
		f.addr = f.c.Addr
		return over
	}
	f.bytes = min(usable, f.c.N)
	return f.ask(plan)
}

// copy lays the old block's bytes into the new one, as many as both have.
func (f *Frame) copy() string {
	f.s.on.Copy(f.addr, f.c.Addr, f.bytes)
	return toFind
}

// rest is of a Collect, or an Exit, that has nothing to do.
func (f *Frame) rest() string { return over }

// disown has the heap's first segment be nobody's. (It has one, unless another call of the thread is under way at the same time, and left the last one.)
func (f *Frame) disown() string {
	l := f.h.Segs()
	if len(l) == 0 {
		return over
	}
	f.left = l[0]
	f.left.Owner().Store(0)
	f.h.Leave(f.left.Place())
	f.s.nobody[f.left.Place()] = f.left
	return toTop
}

// top sees what the segment is to be put on.
func (f *Frame) top() string {
	f.seen, f.tag = f.s.stack.Look()
	return toPut
}

// put has others find the segment, if nobody else was there meanwhile; a place that is in the stack already would never go, and is found.
func (f *Frame) put() string {
	went, e := f.s.stack.Put(f.left.Place(), f.seen, f.tag)
	if went || e == api.ErrThere {
		return f.disownOn()
	}
	return toTop
}

// gatherNext takes back what others posted on the next page, and says how many blocks; of a page that isn't there any more, or that was written over, none.
func (f *Frame) gatherNext() int {
	n, _ := f.h.Gather(f.pages[0])
	f.pages = f.pages[1:]
	return n
}

// gatherOn is the state of the next page that is to be gathered, or the one behind the last.
func (f *Frame) gatherOn() string {
	switch {
	case len(f.pages) > 0:
		return toGather
	case f.mallocs():
		return toFresh
	case f.c.Kind == api.Exit:
		return f.disownOn()
	case f.c.Force:
		return toLook
	}
	return over
}

// sweepOn is the state of the next page that is to be swept, or the one behind the last.
func (f *Frame) sweepOn() string {
	switch {
	case len(f.pages) > 0:
		return toSweep
	case f.mallocs():
		return f.ask(f.plan)
	}
	return toLook
}

// disownOn is the state of the next segment that is to be left, or that behind the last.
func (f *Frame) disownOn() string {
	if len(f.h.Segs()) > 0 {
		return toDisown
	}
	return over
}

// begins is where the pages of a segment begin.
func begins(g *seg.Segment) []uint64 {
	var l []uint64
	for _, p := range g.Pages() {
		l = append(l, p.Run().From)
	}
	return l
}

// mallocs says whether it is a block that is asked for, by a Malloc, or by one within a Realloc.
func (f *Frame) mallocs() bool { return f.c.Kind == api.Malloc || f.c.Kind == api.Realloc }

// made is the end of a Malloc, or of one within a Realloc, which goes on, if there is a new block.
func (f *Frame) made(addr uint64, e api.Errno) string {
	if e != api.OK {
		return f.fail(e)
	}
	f.addr = addr
	if f.c.Kind == api.Realloc {
		return toCopy
	}
	if f.c.Zero {
		usable, _ := f.s.Usable(addr) // never an error, unless what was handed out is no block, since a list was written over: then there is nothing to fill
		f.s.on.Fill(addr, usable)
	}
	return over
}

// freed is the end of a Free, or of one within a Realloc, which has its new block whatever became of the old one.
func (f *Frame) freed(e api.Errno) string {
	if f.c.Kind == api.Free {
		f.err = e
	}
	return over
}

// fail is the end of a call that has an error.
func (f *Frame) fail(e api.Errno) string {
	f.err = e
	return over
}
