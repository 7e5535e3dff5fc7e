package call

import (
	"allotment/api"
	"allotment/class"
	"allotment/heap"
	"allotment/seg"
)

// The states: what the next step does.
const (
	toRefuse = "refuse"
	toHuge   = "huge"
	toLocal  = "local"
	toGather = "gather"
	toFresh  = "fresh"
	toLook   = "look"
	toTake   = "take"
	toOwn    = "own"
	toSweep  = "sweep"
	toGrow   = "grow"
	toFind   = "find"
	toHead   = "head"
	toPost   = "post"
	toFit    = "fit"
	toCopy   = "copy"
	toRest   = "rest"
	toDisown = "disown"
	toTop    = "top"
	toPut    = "put"
	over     = "done"
)

const (
	alone      = -1 // the class of a plan without one
	none       = -1 // stands for a place, where the stack has none
	leastAlign = 1
)

// steps are what is done in each state; a step answers the next one.
func steps() map[string]func(*Frame) string {
	return map[string]func(*Frame) string{
		toRefuse: (*Frame).refuse,
		toHuge:   (*Frame).huge,
		toLocal:  (*Frame).local,
		toGather: (*Frame).gather,
		toFresh:  (*Frame).fresh,
		toLook:   (*Frame).look,
		toTake:   (*Frame).take,
		toOwn:    (*Frame).own,
		toSweep:  (*Frame).sweep,
		toGrow:   (*Frame).grow,
		toFind:   (*Frame).find,
		toHead:   (*Frame).head,
		toPost:   (*Frame).post,
		toFit:    (*Frame).fit,
		toCopy:   (*Frame).copy,
		toRest:   (*Frame).rest,
		toDisown: (*Frame).disown,
		toTop:    (*Frame).top,
		toPut:    (*Frame).put,
	}
}

// Frame is a call, step by step. What a step saw of a shared word, and what the next ones go by, stands in it.
type Frame struct {
	s     *Sys
	h     *heap.Heap
	id    uint64
	c     api.Call
	steps map[string]func(*Frame) string
	state string
	took  int

	plan  class.Plan
	pages []uint64     // where those begin that are still to be gathered
	seen  int          // the place on top of the stack
	first uint64       // the first block that others posted
	tag   uint64       // of the word that was seen last
	left  *seg.Segment // the one that is to be put
	page  *seg.Owned   // the one whose block is to be posted
	bytes uint64       // that a Realloc's old block has

	addr uint64 // that it is over with, or that a Realloc goes on with
	err  api.Errno
}

// Begin begins a call of a thread.
func (s *Sys) Begin(t int, c api.Call) (*Frame, api.Errno) {
	if s == nil {
		return nil, api.ErrNil
	}
	if !isThread(t) {
		return nil, api.ErrArg
	}
	f := &Frame{s: s, h: s.heaps[t], id: idOf(t), c: c, steps: steps()}
	switch c.Kind {
	case api.Malloc:
		f.state = f.beginMalloc()
	case api.Free:
		f.state = toFind
	case api.Realloc:
		f.state = toFit
	case api.Collect, api.Exit:
		f.state = f.beginGather()
	default:
		return nil, api.ErrArg
	}
	return f, api.OK
}

// Step does a step; false, if the call is over.
func (f *Frame) Step() bool {
	if f.Done() {
		return false
	}
	f.took++
	f.state = f.steps[f.state](f)
	return true
}

// State is what the next step does.
func (f *Frame) State() string {
	if f == nil {
		return ""
	}
	return f.state
}

// Done says whether the call is over; one that no system began has nothing to do.
func (f *Frame) Done() bool { return f == nil || f.s == nil || f.state == over }

// Result is what the call answers, once it is over.
func (f *Frame) Result() api.Result {
	if f == nil || !f.Done() {
		return api.Result{}
	}
	return api.Result{Addr: f.addr, Err: f.err, Steps: f.took}
}

// beginMalloc is the state in which a Malloc begins.
func (f *Frame) beginMalloc() string {
	plan, e := class.For(f.c.N, max(f.c.Align, leastAlign))
	if e != api.OK {
		return toRefuse
	}
	return f.ask(plan)
}

// beginGather is the state in which a Collect, or an Exit, begins; one that has nothing to do takes a step for that.
func (f *Frame) beginGather() string {
	f.pages = f.h.Pages()
	state := f.gatherOn()
	if state == over {
		return toRest
	}
	return state
}

// ask is the state in which a block of a plan is asked for.
func (f *Frame) ask(p class.Plan) string {
	f.plan = p
	switch {
	case p.Segs > 0:
		return toHuge
	case p.Class != alone:
		return toLocal
	}
	return toFresh
}
