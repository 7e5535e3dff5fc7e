package stack_test

import (
	"math/rand/v2"
	"slices"
	"testing"

	"allotment/api"
	"allotment/cell"
	"allotment/stack"
)

func push(t *testing.T, s *stack.Stack, p int) *stack.Move {
	t.Helper()
	m, e := s.Push(p)
	if m == nil || e != api.OK {
		t.Fatalf("Push(%d): %v, error %d", p, m, e)
	}
	return m
}

func pop(t *testing.T, s *stack.Stack) *stack.Move {
	t.Helper()
	m, e := s.Pop()
	if m == nil || e != api.OK {
		t.Fatalf("Pop: %v, error %d", m, e)
	}
	return m
}

// ends has a move take its last steps, as many as it is to have, and holds its place against that one.
func ends(t *testing.T, m *stack.Move, steps, place int) {
	t.Helper()
	for i := range steps {
		if m.Done() {
			t.Fatalf("over behind %d steps; wanted %d", i, steps)
		}
		if !m.Step() {
			t.Fatalf("step %d isn't one", i)
		}
	}
	for range 2 {
		if !m.Done() || m.Place() != place || m.Step() {
			t.Fatalf("behind %d steps: over %t, place %d; wanted %d", steps, m.Done(), m.Place(), place)
		}
	}
}

// is holds a stack against its places, and how often it was asked.
func is(t *testing.T, what string, s *stack.Stack, asked int, places ...int) {
	t.Helper()
	if l, n := s.All(), cell.Asked(s.Cell()); !slices.Equal(l, places) || n != asked {
		t.Fatalf("%s: %v, asked %d; wanted %v, %d", what, l, n, places, asked)
	}
}

// goes takes one step of a move that isn't over behind it.
func goes(t *testing.T, m *stack.Move, place int) {
	t.Helper()
	if !m.Step() || m.Done() || m.Place() != place {
		t.Fatalf("a step: over %t, place %d; wanted %d", m.Done(), m.Place(), place)
	}
}

// made is a stack of these places, the top one first.
func made(t *testing.T, places ...int) *stack.Stack {
	t.Helper()
	return filled(t, places...).s
}

// P13.2: of no place there is no push; to make a move asks nothing, and changes nothing.
func TestPushArguments(t *testing.T) {
	for _, in := range [][]int{nil, {5, 3}, places()} {
		s := made(t, in...)
		n := len(in)
		for _, p := range append(noPlaces(), -1) {
			if m, e := s.Push(p); m != nil || e != api.ErrArg {
				t.Errorf("Push(%d): %v, error %d", p, m, e)
			}
		}
		for p := range 64 {
			a, b := push(t, s, p), push(t, s, p)
			if a == b || a.Done() || a.Place() != p {
				t.Errorf("Push(%d): one move twice, or over %t, place %d", p, a.Done(), a.Place())
			}
		}
		a, b := pop(t, s), pop(t, s)
		if a == b || a.Done() || a.Place() != -1 {
			t.Errorf("Pop: one move twice, or over %t, place %d", a.Done(), a.Place())
		}
		is(t, "moves that didn't step", s, n, in...)
	}
}

// Of a nil Move: false, Done true, Place -1; so of one that no stack made.
func TestNilMove(t *testing.T) {
	for _, m := range []*stack.Move{nil, {}, new(stack.Move)} {
		for range 3 {
			if m.Step() || !m.Done() || m.Place() != -1 {
				t.Errorf("Step %t, Done %t, Place %d", m.Step(), m.Done(), m.Place())
			}
		}
	}
}

// P13.2: a push looks, then puts; each step asks the cell once, a step behind the last one nothing.
func TestPushSteps(t *testing.T) {
	for _, in := range [][]int{nil, {5}, {63, 0, 5}} {
		for _, p := range []int{1, 7, 62} {
			s := made(t, in...)
			n := len(in)
			m := push(t, s, p)
			goes(t, m, p)
			is(t, "looked", s, n+1, in...)
			ends(t, m, 1, p)
			is(t, "put", s, n+2, append([]int{p}, in...)...)
			if got := of(s); got != (state{uint64(p) + 1, uint64(n) + 1, n + 2}) {
				t.Errorf("the cell: %+v", got)
			}
		}
	}
}

// P13.2: a pop looks, then takes; of none it is over at once.
func TestPopSteps(t *testing.T) {
	for _, in := range [][]int{{0}, {63}, {5, 3}, {63, 0, 5}, places()} {
		s := made(t, in...)
		n := len(in)
		m := pop(t, s)
		goes(t, m, -1)
		is(t, "looked", s, n+1, in...)
		ends(t, m, 1, in[0])
		is(t, "taken", s, n+2, in[1:]...)
		if got := of(s); got.tag != uint64(n)+1 {
			t.Errorf("the cell: %+v", got)
		}
	}
	s := made(t)
	ends(t, pop(t, s), 1, -1)
	is(t, "a pop of none", s, 1)
	ends(t, pop(t, s), 1, -1)
	is(t, "another one", s, 2)
	ends(t, push(t, s, 0), 2, 0)
	ends(t, pop(t, s), 2, 0)
	ends(t, pop(t, s), 1, -1)
	is(t, "none again", s, 7)
}

// P13.2: all places go in, and come out backwards; a place that a move told stays its own, whatever becomes of the stack.
func TestPushAndPopAll(t *testing.T) {
	s := &stack.Stack{}
	var moves []*stack.Move
	in := places()
	for _, p := range in {
		m := push(t, s, p)
		ends(t, m, 2, p)
		moves = append(moves, m)
	}
	out := slices.Clone(in)
	slices.Reverse(out)
	for _, p := range out {
		m := pop(t, s)
		ends(t, m, 2, p)
		moves = append(moves, m)
	}
	ends(t, pop(t, s), 1, -1)
	is(t, "all taken", s, 4*64+1)
	for i, p := range append(in, out...) {
		ends(t, moves[i], 0, p)
	}
}

// P13.2: a push that somebody else overtook looks again, as often as that happens; then it stands on who is on top now.
func TestPushLate(t *testing.T) {
	s := made(t, 3)
	m := push(t, s, 7)
	asked := 1
	for _, p := range []int{10, 11, 12} {
		goes(t, m, 7)
		ends(t, push(t, s, p), 2, p)
		goes(t, m, 7)
		asked += 4
		if l := s.All(); slices.Contains(l, 7) || l[0] != p {
			t.Fatalf("a late push: %v", l)
		}
	}
	goes(t, m, 7)
	ends(t, pop(t, s), 2, 12)
	goes(t, m, 7)
	is(t, "overtaken by a pop", s, asked+4, 11, 10, 3)
	ends(t, m, 2, 7)
	is(t, "put", s, asked+6, 7, 11, 10, 3)
}

// P13.2: a pop that somebody else overtook looks again; if there is none then, it is over.
func TestPopLate(t *testing.T) {
	s := made(t, 5, 3, 1)
	m := pop(t, s)
	goes(t, m, -1)
	ends(t, pop(t, s), 2, 5)
	goes(t, m, -1)
	goes(t, m, -1)
	ends(t, push(t, s, 9), 2, 9)
	goes(t, m, -1)
	is(t, "late twice", s, 3+4+4, 9, 3, 1)
	goes(t, m, -1)
	for _, p := range []int{9, 3, 1} {
		ends(t, pop(t, s), 2, p)
	}
	goes(t, m, -1)
	ends(t, m, 1, -1)
	is(t, "none is left", s, 11+1+6+2)

	s = made(t, 5, 3)
	m = pop(t, s)
	goes(t, m, -1)
	ends(t, push(t, s, 9), 2, 9)
	ends(t, m, 3, 9)
	is(t, "what is on top now", s, 2+1+2+3, 5, 3)
}

// P13.2: a push of a place that is in the stack looks, and is over when it would put it, wherever that is; nothing is put, nor asked then.
func TestPushOfOneThere(t *testing.T) {
	for _, in := range [][]int{{0}, {5, 3}, {63, 0, 5}, places()} {
		s := made(t, in...)
		asked := len(in)
		for _, p := range in {
			m := push(t, s, p)
			goes(t, m, p)
			asked++
			ends(t, m, 1, p)
			is(t, "nothing was put", s, asked, in...)
		}
		if got := of(s); got.tag != uint64(len(in)) {
			t.Errorf("the cell: %+v", got)
		}
	}
}

// P13.2: what counts is whether the place is in the stack when it would be put: not when the push was made, nor when it looked.
func TestPushOfOneThereMeanwhile(t *testing.T) {
	s := made(t, 3)
	m := push(t, s, 7)
	goes(t, m, 7)
	ends(t, push(t, s, 7), 2, 7)
	ends(t, push(t, s, 9), 2, 9)
	ends(t, m, 1, 7)
	is(t, "put by another one", s, 1+1+4, 9, 7, 3)

	m = push(t, s, 9)
	ends(t, pop(t, s), 2, 9)
	ends(t, m, 2, 9)
	is(t, "taken ahead of the look", s, 6+4, 9, 7, 3)

	m = push(t, s, 9)
	goes(t, m, 9)
	ends(t, pop(t, s), 2, 9)
	goes(t, m, 9)
	is(t, "taken behind the look", s, 10+4, 7, 3)
	ends(t, m, 2, 9)
	is(t, "put then", s, 14+2, 9, 7, 3)
}

// P13.3: a place that was taken and put again meanwhile isn't the one that was seen: who saw it ahead of that looks again, so that what was below it then isn't laid bare.
func TestPlaceThatCameBack(t *testing.T) {
	s := made(t, 5, 3, 1)
	late := pop(t, s)
	goes(t, late, -1)
	ends(t, pop(t, s), 2, 5)
	ends(t, pop(t, s), 2, 3)
	ends(t, push(t, s, 5), 2, 5)
	goes(t, late, -1)
	is(t, "3 isn't laid bare", s, 3+1+6+1, 5, 1)
	ends(t, late, 2, 5)
	is(t, "taken", s, 11+2, 1)

	s = made(t, 5)
	late = push(t, s, 7)
	goes(t, late, 7)
	ends(t, pop(t, s), 2, 5)
	ends(t, push(t, s, 5), 2, 5)
	goes(t, late, 7)
	is(t, "a push looks again, too", s, 1+1+4+1, 5)
	ends(t, late, 2, 7)
	is(t, "put", s, 7+2, 7, 5)
}

// The move's Look, Put and Take are those of its stack.
func TestPromoted(t *testing.T) {
	s := made(t, 3)
	m := push(t, s, 5)
	top, tag := m.Look()
	if top != 3 || tag != 1 {
		t.Errorf("Look: %d %d", top, tag)
	}
	if is, e := m.Put(9, top, tag); !is || e != api.OK {
		t.Errorf("Put: %t, error %d", is, e)
	}
	is(t, "put through a move", s, 3, 9, 3)
	if is, e := m.Take(9, 2); !is || e != api.OK {
		t.Errorf("Take: %t, error %d", is, e)
	}
	is(t, "taken through a move", s, 4, 3)
	if m.Done() || m.Place() != 5 {
		t.Errorf("over %t, place %d", m.Done(), m.Place())
	}
	goes(t, m, 5)
	if is, e := m.Take(3, 3); !is || e != api.OK {
		t.Errorf("Take: %t, error %d", is, e)
	}
	goes(t, m, 5)
	ends(t, m, 2, 5)
	is(t, "the move itself", s, 4+1+1+1+2, 5)
}

// A cell that was written over with what no place has: each step ends, and neither puts nor takes; once the word is right again, the move gets on.
func TestMoveOfCellWrittenOver(t *testing.T) {
	for _, word := range []uint64{65, 1 << 31, 1<<32 + 6, 1 << 63, 1<<63 + 1, greatest} {
		s := made(t, 5, 3)
		for _, m := range []*stack.Move{push(t, s, 7), pop(t, s)} {
			place := m.Place()
			s.Cell().Store(word)
			was := of(s)
			for range 6 {
				goes(t, m, place)
			}
			if got := of(s); got.word != word || got.tag != was.tag || got.asked != was.asked+3 {
				t.Errorf("the cell: %+v; it was %+v", got, was)
			}
			s.Cell().Store(6)
			ends(t, m, 2, max(place, 5))
		}
		if l := s.All(); !slices.Equal(l, []int{3}) {
			t.Errorf("left: %v", l)
		}
	}
}

// plain is moves told in another way: a row of places, how many writes there were, and of each move what it saw.
type plain struct {
	row    []int // the top one last
	writes int
	asked  int
	moves  []plainMove
}

type plainMove struct {
	place  int // -1 of a pop, till it took one
	pop    bool
	looked bool
	saw    int // how many writes
	late   int
	over   bool
}

// step is one of a move's.
func (p *plain) step(i int) {
	m := &p.moves[i]
	switch {
	case !m.looked:
		p.asked++
		m.looked, m.saw = true, p.writes
		m.over = m.pop && len(p.row) == 0
	case !m.pop && slices.Contains(p.row, m.place):
		m.over = true
	case m.saw != p.writes:
		p.asked++
		m.late++
		m.looked = false
	case m.pop:
		p.asked++
		p.writes++
		m.place, p.row = p.row[len(p.row)-1], p.row[:len(p.row)-1]
		m.over = true
	default:
		p.asked++
		p.writes++
		p.row = append(p.row, m.place)
		m.over = true
	}
}

// party is some moves of one stack, and what they are to be.
type party struct {
	t     *testing.T
	s     *stack.Stack
	moves []*stack.Move
	p     plain
	turns []int
}

// begin has a move be another one: a push of a place, or of -1 a pop.
func (a *party) begin(i, place int) {
	a.t.Helper()
	a.p.moves[i] = plainMove{place: place, pop: place < 0}
	if place < 0 {
		a.moves[i] = pop(a.t, a.s)
	} else {
		a.moves[i] = push(a.t, a.s, place)
	}
}

// newParty is a stack of places, the top one last, and moves of it.
func newParty(t *testing.T, in, moves []int) *party {
	t.Helper()
	a := &party{t: t, s: &stack.Stack{}, p: plain{row: slices.Clone(in), writes: len(in), asked: len(in)}}
	below := -1
	for i, p := range in {
		a.s.Put(p, below, uint64(i))
		below = p
	}
	a.moves, a.p.moves = make([]*stack.Move, len(moves)), make([]plainMove, len(moves))
	for i, p := range moves {
		a.begin(i, p)
	}
	return a
}

// again takes a step that was held against what is to be in another row of turns.
func (a *party) again(i int) {
	a.turns = append(a.turns, i)
	a.p.step(i)
	a.moves[i].Step()
}

// step takes one of a move's steps, and holds all against what is to be.
func (a *party) step(i int) {
	a.t.Helper()
	a.turns = append(a.turns, i)
	was := cell.Asked(a.s.Cell())
	a.p.step(i)
	if !a.moves[i].Step() {
		a.t.Fatalf("turns %v: no step", a.turns)
	}
	if n := cell.Asked(a.s.Cell()); n > was+1 || n != a.p.asked {
		a.t.Fatalf("turns %v: asked %d, ahead of it %d; wanted %d", a.turns, n, was, a.p.asked)
	}
	row := a.s.All()
	slices.Reverse(row)
	if got := of(a.s); !slices.Equal(row, a.p.row) || got.tag != uint64(a.p.writes) {
		a.t.Fatalf("turns %v: %v, tag %d; wanted %v, %d", a.turns, row, got.tag, a.p.row, a.p.writes)
	}
	for j, m := range a.moves {
		if want := a.p.moves[j]; m.Done() != want.over || m.Place() != want.place {
			a.t.Fatalf("turns %v: move %d: over %t, place %d; wanted %t, %d", a.turns, j, m.Done(), m.Place(), want.over, want.place)
		}
	}
}

// P13.3: some moves, in all turns that there are: each place is taken by one, none is lost, each step asks once at most; who is late was overtaken, and all are over in the end.
func TestAllTurns(t *testing.T) {
	parties := []struct {
		in, moves []int
		rows      int
	}{
		{[]int{3, 5}, []int{-1, -1}, 6},
		{nil, []int{-1, -1, 3}, 16},
		{nil, []int{3, 5, -1, -1}, 3820},
		{[]int{5}, []int{-1, -1, 5}, 196},
		{[]int{3, 5}, []int{-1, -1, -1}, 498},
		{[]int{3, 5}, []int{-1, 7, 9}, 498},
		{[]int{3, 5}, []int{5, -1, -1, 3}, 43384},
		{[]int{3}, []int{7, 7, -1}, 278},
		{nil, []int{7, 7, 7, -1}, 2382},
		{[]int{63, 0}, []int{-1, 0, 63, -1}, 43384},
	}
	for _, x := range parties {
		rows := 0
		var from func(turns []int)
		from = func(turns []int) {
			a := newParty(t, x.in, x.moves)
			for i, n := range turns {
				if i < len(turns)-1 {
					a.again(n)
				} else {
					a.step(n)
				}
			}
			over := true
			for i, m := range a.moves {
				if m.Done() {
					continue
				}
				over = false
				from(append(slices.Clip(turns), i))
			}
			if over {
				rows++
				a.balance(x.in)
			}
		}
		from(nil)
		if rows != x.rows {
			t.Errorf("%v: %d rows of turns; wanted %d", x.moves, rows, x.rows)
		}
	}
}

// balance holds all places that were there, and were put, against those that are there, and were taken; each is as often in both. And nobody is late more often than others wrote.
func (a *party) balance(in []int) {
	a.t.Helper()
	var had, have [64]int
	for _, p := range in {
		had[p]++
	}
	for _, p := range a.s.All() {
		have[p]++
	}
	for i, m := range a.moves {
		switch want := a.p.moves[i]; {
		case !want.pop:
			had[m.Place()]++
		case m.Place() >= 0:
			have[m.Place()]++
		}
		if late := a.p.moves[i].late; late > a.p.writes-len(in) {
			a.t.Fatalf("turns %v: move %d is late %d times", a.turns, i, late)
		}
	}
	for p := range had {
		// A push of one that is there puts nothing: so fewer may be had than were asked for.
		if have[p] > had[p] || had[p] > 0 && have[p] == 0 {
			a.t.Fatalf("turns %v: place %d: %d of %d", a.turns, p, have[p], had[p])
		}
	}
}

// P13.3: threads that pop, and put back what they took, in turns of any order: what one has, no other one has, and none is lost.
func TestLongTurns(t *testing.T) {
	r := rand.New(rand.NewPCG(13, 3))
	for _, threads := range []int{2, 5, 8} {
		for range 12 {
			in := places()[:1+r.IntN(64)]
			a := newParty(t, in, slices.Repeat([]int{-1}, threads))
			taken := map[int]bool{}
			late := 0
			for range 3000 {
				i := r.IntN(threads)
				a.step(i)
				a.turns = a.turns[max(0, len(a.turns)-40):]
				if !a.moves[i].Done() {
					continue
				}
				late += a.p.moves[i].late
				place := a.moves[i].Place()
				switch {
				case !a.p.moves[i].pop:
					delete(taken, place)
					a.begin(i, -1)
				case taken[place]:
					t.Fatalf("place %d is taken by two", place)
				default:
					if place >= 0 {
						taken[place] = true
					}
					a.begin(i, place)
				}
			}
			if n := len(a.s.All()) + len(taken); n != len(in) || late == 0 {
				t.Errorf("%d places of %d; late %d times", n, len(in), late)
			}
		}
	}
}
