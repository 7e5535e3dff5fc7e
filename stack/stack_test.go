package stack_test

import (
	"math"
	"math/rand/v2"
	"slices"
	"testing"

	"allotment/api"
	"allotment/stack"
)

// The chapter's examples.
func TestExamples(t *testing.T) {
	s := &stack.Stack{}
	for _, p := range []int{3, 5} {
		ends(t, push(t, s, p), 2, p)
	}
	ends(t, pop(t, s), 2, 5)
	ends(t, push(t, s, 5), 2, 5)
	a, b := pop(t, s), pop(t, s)
	if !a.Step() || !b.Step() {
		t.Fatal("a look is a step")
	}
	ends(t, b, 1, 5)
	ends(t, a, 3, 3)
	if l := s.All(); len(l) != 0 {
		t.Errorf("left: %v", l)
	}
}

// P13.1: a zero value is a stack that has none.
func TestZeroValue(t *testing.T) {
	var v stack.Stack
	for _, s := range []*stack.Stack{&v, new(stack.Stack), {}} {
		if got := of(s); got != (state{}) || len(s.All()) != 0 {
			t.Errorf("a new stack: %+v, %v", got, s.All())
		}
		if top, tag := s.Look(); top != -1 || tag != 0 {
			t.Errorf("Look: %d %d", top, tag)
		}
		for p := range 64 {
			if is, e := s.Take(p, 1); is || e != api.OK {
				t.Errorf("Take of another tag: %t, error %d", is, e)
			}
		}
		if got := of(s); got != (state{asked: 65}) || len(s.All()) != 0 {
			t.Errorf("a stack that was looked at: %+v, %v", got, s.All())
		}
	}
}

// Of a nil Stack: ErrNil, ahead of ErrArg, too; Look -1 and 0, else zero.
func TestNilStack(t *testing.T) {
	var s *stack.Stack
	numbers := append(noPlaces(), -1, 0, 5, 63)
	for range 2 {
		if top, tag := s.Look(); top != -1 || tag != 0 {
			t.Errorf("Look: %d %d", top, tag)
		}
		for _, p := range numbers {
			for _, tag := range []uint64{0, 1, greatest} {
				for _, top := range numbers {
					if is, e := s.Put(p, top, tag); is || e != api.ErrNil {
						t.Errorf("Put(%d, %d, %d): %t, error %d", p, top, tag, is, e)
					}
				}
				if is, e := s.Take(p, tag); is || e != api.ErrNil {
					t.Errorf("Take(%d, %d): %t, error %d", p, tag, is, e)
				}
			}
			if m, e := s.Push(p); m != nil || e != api.ErrNil {
				t.Errorf("Push(%d): %v, error %d", p, m, e)
			}
		}
		if m, e := s.Pop(); m != nil || e != api.ErrNil {
			t.Errorf("Pop: %v, error %d", m, e)
		}
		if s.Cell() != nil || len(s.All()) != 0 {
			t.Errorf("Cell %v, All %v", s.Cell(), s.All())
		}
	}
}

// P13.1: Look tells who is on top, whoever that is, and the tag; it asks the cell each time, and changes nothing.
func TestLook(t *testing.T) {
	for p := range 64 {
		w := newTwin(t)
		w.looks()
		w.puts(p, -1, 0)
		for range 3 {
			if top, tag := w.s.Look(); top != p || tag != 1 {
				t.Fatalf("Look: %d %d; wanted %d 1", top, tag, p)
			}
			w.asked++
			w.looks()
		}
		w.takes(p, 1)
		if top, tag := w.s.Look(); top != -1 || tag != 2 {
			t.Fatalf("Look of none: %d %d", top, tag)
		}
		w.asked++
		w.row("taken again")
	}
}

// P13.1: all places are put one by one, and taken one by one: the last one first.
func TestPutAndTakeAll(t *testing.T) {
	for _, l := range [][]int{places(), sorted(), backward()} {
		w := newTwin(t)
		var in []int
		for i, p := range l {
			w.want("Put", true, api.OK)(w.puts(p, w.top(), w.tag()))
			in = append([]int{p}, in...)
			w.row("put", in...)
			if got := of(w.s); got != (state{uint64(p) + 1, uint64(i) + 1, i + 1}) {
				t.Fatalf("Put of %d: %+v", p, got)
			}
		}
		for i, p := range in {
			w.want("Take", true, api.OK)(w.takes(p, w.tag()))
			w.row("taken", in[i+1:]...)
			if got := of(w.s); got.tag != uint64(64+i)+1 || got.asked != 64+i+1 {
				t.Fatalf("Take of %d: %+v", p, got)
			}
		}
		if w.word() != 0 {
			t.Fatalf("the word of none: %d", w.word())
		}
	}
}

func sorted() []int {
	var l []int
	for p := range 64 {
		l = append(l, p)
	}
	return l
}

func backward() []int {
	l := sorted()
	slices.Reverse(l)
	return l
}

// P13.1: a place, or a top, that isn't one is refused, ahead of all else; nothing changes, and the cell isn't asked.
func TestPutOfNoPlace(t *testing.T) {
	for _, in := range [][]int{nil, {5}, {63, 0, 5}, places()} {
		w := filled(t, in...)
		for _, p := range append(noPlaces(), -1) {
			for _, top := range append(noPlaces(), -1, 0, 5, 63, w.top()) {
				w.want("Put of no place", false, api.ErrArg)(w.puts(p, top, w.tag()))
			}
		}
		for _, p := range []int{0, 5, 7, 63} {
			for _, top := range noPlaces() {
				for _, tag := range []uint64{w.tag(), w.tag() + 1, 0} {
					w.want("Put on no place", false, api.ErrArg)(w.puts(p, top, tag))
				}
			}
		}
		w.row("nothing was put", in...)
	}
}

// P13.1: a place that is in the stack, wherever, isn't put again, with whatever top and tag; the cell isn't asked.
func TestPutOfOneThere(t *testing.T) {
	for _, in := range [][]int{{0}, {63}, {5, 3}, {63, 0, 5}, places()} {
		w := filled(t, in...)
		was := of(w.s)
		for _, p := range in {
			for _, top := range []int{-1, 0, p, w.top(), 63} {
				for _, tag := range []uint64{w.tag(), w.tag() - 1, w.tag() + 1, greatest} {
					w.want("Put of one there", false, api.ErrThere)(w.puts(p, top, tag))
				}
			}
		}
		w.row("none was put", in...)
		if got := of(w.s); got != was {
			t.Errorf("the cell: %+v; wanted %+v", got, was)
		}
	}
}

// P13.1: with any tag but that of now a Put doesn't go: the stack stays, but the cell was asked, and below the place is the top that was handed in.
func TestPutLate(t *testing.T) {
	for _, in := range [][]int{nil, {5}, {63, 0, 5}} {
		for _, top := range []int{-1, 0, 5, 9, 63} {
			w := filled(t, in...)
			for _, tag := range []uint64{w.tag() - 1, w.tag() + 1, w.tag() + 1<<32, greatest - 1, 1 << 63} {
				n := w.asked
				w.want("a late Put", false, api.OK)(w.puts(7, top, tag))
				if w.row("a late Put", in...); w.asked != n+1 {
					t.Fatal("a late Put asks the cell once")
				}
			}
			w.want("Take of it", true, api.OK)(w.takes(7, w.tag()))
			if got, _ := w.s.Look(); got != top {
				t.Errorf("below it: %d; wanted %d", got, top)
			}
		}
	}
}

// P13.1: of several late Puts of a place, and one that goes, what the last one said is below it.
func TestPutAgain(t *testing.T) {
	w := filled(t, 1, 2)
	w.puts(7, -1, 0)
	w.puts(7, 40, 1)
	w.want("Put", true, api.OK)(w.puts(7, 1, 2))
	w.row("put", 7, 1, 2)
	w.want("Put of one there", false, api.ErrThere)(w.puts(7, -1, 0))
	w.row("what is below stays", 7, 1, 2)
	w.want("Take", true, api.OK)(w.takes(7, 3))
	w.row("taken", 1, 2)
	w.want("Put of one that was taken", true, api.OK)(w.puts(7, 1, 4))
	w.row("put again", 7, 1, 2)
}

// P13.1: of no place there is no Take; the cell isn't asked.
func TestTakeOfNoPlace(t *testing.T) {
	for _, in := range [][]int{nil, {0}, {63, 0, 5}, places()} {
		w := filled(t, in...)
		for _, top := range append(noPlaces(), -1) {
			for _, tag := range []uint64{w.tag(), w.tag() + 1, 0, greatest} {
				w.want("Take of no place", false, api.ErrArg)(w.takes(top, tag))
			}
		}
		w.row("none was taken", in...)
	}
}

// P13.1: with any tag but that of now a Take doesn't go: the stack stays, but the cell was asked.
func TestTakeLate(t *testing.T) {
	for _, in := range [][]int{{0}, {63, 0, 5}, places()} {
		w := filled(t, in...)
		for _, top := range []int{in[0], 0, 5, 63, 7} {
			for _, tag := range []uint64{w.tag() - 1, w.tag() + 1, w.tag() + 1<<32, greatest, 1 << 63} {
				n := w.asked
				w.want("a late Take", false, api.OK)(w.takes(top, tag))
				if w.row("a late Take", in...); w.asked != n+1 {
					t.Fatal("a late Take asks the cell once")
				}
			}
		}
	}
}

// P13.1: a Take with the tag of now goes, whoever is on top: what is below the one that was handed in is the stack.
func TestTakeOfAnother(t *testing.T) {
	for _, x := range []struct {
		top  int
		left []int
	}{{5, []int{3, 1, 2}}, {3, []int{1, 2}}, {1, []int{2}}, {2, nil}, {7, nil}, {0, nil}, {63, nil}} {
		w := filled(t, 5, 3, 1, 2)
		w.want("Take", true, api.OK)(w.takes(x.top, 4))
		w.row("taken", x.left...)
		w.want("Take of a tag that was", false, api.OK)(w.takes(x.top, 4))
		w.row("not taken twice", x.left...)
	}
	// What is below one that was taken stays what it was.
	w := filled(t, 5, 3, 1, 2)
	w.takes(5, 4)
	w.takes(3, 5)
	w.want("Take of one that was taken", true, api.OK)(w.takes(5, 6))
	w.row("what was below it", 3, 1, 2)
}

// P13.1: a Put on another one than the top has that one below; all that is above that one isn't in the stack any more.
func TestPutOnAnother(t *testing.T) {
	for _, x := range []struct {
		top  int
		left []int
	}{{-1, nil}, {5, []int{5, 3, 1, 2}}, {3, []int{3, 1, 2}}, {1, []int{1, 2}}, {2, []int{2}}, {63, []int{63}}} {
		w := filled(t, 5, 3, 1, 2)
		w.want("Put", true, api.OK)(w.puts(7, x.top, 4))
		w.row("put", append([]int{7}, x.left...)...)
	}
}

// P13.1: where places lead round to one that was told already, All ends there, and these are in the stack.
func TestRings(t *testing.T) {
	w := newTwin(t)
	w.want("Put on itself", true, api.OK)(w.puts(3, 3, 0))
	w.row("on itself", 3)
	w.want("Put of it", false, api.ErrThere)(w.puts(3, -1, 1))
	w.want("Take of it", true, api.OK)(w.takes(3, 1))
	w.row("still on itself", 3)

	w = filled(t, 5, 3)
	w.want("Take", true, api.OK)(w.takes(5, 2))
	w.want("Take", true, api.OK)(w.takes(3, 3))
	w.want("Put on one that isn't there", true, api.OK)(w.puts(3, 5, 4))
	w.row("round", 3, 5)
	for _, p := range []int{3, 5} {
		w.want("Put of one in the ring", false, api.ErrThere)(w.puts(p, 3, 5))
	}
	w.want("Put on the ring", true, api.OK)(w.puts(9, 3, 5))
	w.row("on the ring", 9, 3, 5)

	w = filled(t, places()...)
	l := w.all()
	w.takes(l[0], w.tag())
	w.takes(l[62], w.tag())
	w.row("the last one", l[63])
	w.takes(l[63], w.tag())
	w.want("Put of the last one on the first", true, api.OK)(w.puts(l[63], l[0], w.tag()))
	w.row("round all", append([]int{l[63]}, l[:63]...)...)
}

// P13.1: Cell is always the same one; what others write on it is what the stack has.
func TestCell(t *testing.T) {
	w := filled(t, 5, 3, 1)
	c := w.s.Cell()
	if c == nil || c != w.s.Cell() {
		t.Fatal("another cell")
	}
	if word, tag := c.Load(); word != 6 || tag != 3 {
		t.Errorf("Load: %d %d", word, tag)
	}
	w.asked++
	w.looks()
	w.stores(4)
	w.row("3 is on top", 3, 1)
	w.looks()
	w.stores(64)
	w.row("63 is on top", 63)
	w.looks()
	w.stores(0)
	w.row("none is on top")
	w.looks()
	w.want("Put", true, api.OK)(w.puts(63, -1, w.tag()))
	w.row("put", 63)
	if w.s.Cell() != c {
		t.Error("another cell")
	}
}

// A cell that was written over with what no place has: nothing panics, none is told, and a place may be put again.
func TestCellWrittenOver(t *testing.T) {
	for _, word := range []uint64{65, 66, 128, 255, 256, 1 << 31, 1<<31 + 1, 1 << 32, 1<<32 + 1, 1<<32 + 6, 1<<63 - 1, 1 << 63, 1<<63 + 1, 1<<63 + 6, greatest - 1, greatest} {
		w := filled(t, 5, 3)
		w.stores(word)
		w.row("none")
		top, tag := w.s.Look()
		w.asked++
		if top >= -1 && top < 64 || tag != w.tag() {
			t.Errorf("Look of word %d: %d %d", word, top, tag)
		}
		w.want("Put on what was seen", false, api.ErrArg)(w.puts(7, top, tag))
		w.want("Take of what was seen", false, api.ErrArg)(w.takes(top, tag))
		w.want("Put", true, api.OK)(w.puts(7, 5, tag))
		w.row("put", 7, 5, 3)
	}
}

// All is new memory each time, its spare room, too.
func TestAllIsNew(t *testing.T) {
	for _, in := range [][]int{{5}, {5, 3, 1}, places()} {
		w := filled(t, in...)
		a, b := w.s.All(), w.s.All()
		spare := append(a, 77)
		for i := range spare {
			spare[i] = 99
		}
		for i := range a {
			a[i] = 99
		}
		if !slices.Equal(b, in) {
			t.Errorf("another answer: %v", b)
		}
		w.row("All that was written", in...)
	}
}

// Stacks have nothing of one another; a copy is a stack of its own.
func TestApart(t *testing.T) {
	a, b := filled(t, 5, 3), filled(t, 5, 7, 1)
	a.takes(5, 2)
	b.puts(2, 5, 3)
	a.row("one", 3)
	b.row("the other", 2, 5, 7, 1)

	c := *a.s
	a.puts(9, 3, 3)
	a.row("with one more", 9, 3)
	if l := c.All(); !slices.Equal(l, []int{3}) {
		t.Errorf("the copy: %v", l)
	}
	if is, e := c.Put(8, 3, 3); !is || e != api.OK || !slices.Equal(c.All(), []int{8, 3}) {
		t.Errorf("Put on the copy: %t, error %d, %v", is, e, c.All())
	}
	a.row("not changed by its copy", 9, 3)
}

// P13.1: all rows of four calls of few places, with tags of now and others.
func TestShortRows(t *testing.T) {
	type step struct {
		kind, place, top int
		ago              uint64
	}
	steps := []step{{kind: 0}}
	for _, top := range []int{-1, 0, 5, 63} {
		for _, ago := range []uint64{0, 1} {
			for _, p := range []int{0, 5, 63} {
				steps = append(steps, step{1, p, top, ago})
			}
			steps = append(steps, step{2, 0, top, ago})
		}
	}
	const long = 4
	rows := 1
	for range long {
		rows *= len(steps)
	}
	for row := range rows {
		w := newTwin(t)
		for range long {
			s := steps[row%len(steps)]
			row /= len(steps)
			switch s.kind {
			case 0:
				w.looks()
			case 1:
				w.puts(s.place, s.top, w.tag()-s.ago)
			case 2:
				w.takes(s.top, w.tag()-s.ago)
			}
		}
	}
}

// P13.1: long rows of calls, most of them as they should be.
func TestLongRows(t *testing.T) {
	r := rand.New(rand.NewPCG(13, 2))
	pick := func() int {
		l := noPlaces()
		if r.IntN(40) == 0 {
			return l[r.IntN(len(l))]
		}
		return r.IntN(65) - 1
	}
	for range 60 {
		w := newTwin(t)
		for range 400 {
			top, tag := w.top(), w.tag()
			if r.IntN(8) == 0 {
				tag += r.Uint64N(5) - 2
			}
			if r.IntN(30) == 0 {
				top = pick()
			}
			switch r.IntN(7) {
			case 0:
				w.looks()
			case 1, 2, 3, 4:
				w.puts(pick(), top, tag)
			default:
				w.takes(top, tag)
			}
			w.done = w.done[max(0, len(w.done)-50):]
		}
	}
}

// Any numbers at once: no call panics, and all end.
func TestStrangeNumbers(t *testing.T) {
	numbers := append(noPlaces(), -1, 0, 1, 62, 63)
	tags := []uint64{0, 1, 2, math.MaxInt64, 1 << 63, greatest}
	w := newTwin(t)
	for _, p := range numbers {
		for _, tag := range tags {
			for _, top := range numbers {
				w.puts(p, top, tag)
			}
			w.takes(p, tag)
		}
		w.done = nil
	}
}
