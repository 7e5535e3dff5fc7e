package stack_test

import (
	"math"
	"math/rand/v2"
	"slices"
	"strconv"
	"strings"
	"testing"

	"allotment/api"
	"allotment/cell"
	"allotment/stack"
)

const greatest = ^uint64(0)

// noPlaces are numbers that no place has, nor none.
func noPlaces() []int {
	return []int{-2, -3, -64, -65, 64, 65, 127, 128, 255, 256, 1 << 31, 1<<31 - 1, 1 << 32, 1<<32 + 5, -1 << 31, -1 << 32, math.MaxInt, math.MaxInt - 1, math.MinInt, math.MinInt + 1}
}

// state is what a cell tells of itself.
type state struct {
	word, tag uint64
	asked     int
}

// of is a stack's cell, looked at by a copy, so that it isn't asked.
func of(s *stack.Stack) state {
	c := *s.Cell()
	n := cell.Asked(s.Cell())
	word, tag := c.Load()
	return state{word, tag, n}
}

// twin is a stack, and beside it what it is to be, told in another way: all words that were written, and who is below whom.
type twin struct {
	t     *testing.T
	s     *stack.Stack
	words []uint64
	below map[int]int
	asked int
	done  []deed
}

// deed is a call that was made, told only if a test fails.
type deed struct {
	what       string
	place, top int
	tag        uint64
}

func newTwin(t *testing.T) *twin {
	return &twin{t: t, s: &stack.Stack{}, below: map[int]int{}}
}

// filled is a twin that has these places, the top one first.
func filled(t *testing.T, places ...int) *twin {
	t.Helper()
	w := newTwin(t)
	for _, p := range slices.Backward(places) {
		w.puts(p, w.top(), w.tag())
	}
	w.row("filled", places...)
	return w
}

func (w *twin) fatal(what string) {
	w.t.Helper()
	for _, d := range w.done {
		w.t.Log(d.what, d.place, d.top, d.tag)
	}
	w.t.Fatal(what)
}

func (w *twin) does(what string, place, top int, tag uint64) {
	w.done = append(w.done, deed{what, place, top, tag})
}

func (w *twin) word() uint64 {
	if len(w.words) == 0 {
		return 0
	}
	return w.words[len(w.words)-1]
}

func (w *twin) tag() uint64 { return uint64(len(w.words)) }

func (w *twin) top() int { return int(w.word()) - 1 }

// under is who is below a place, -1 of none.
func (w *twin) under(place int) int {
	if p, ok := w.below[place]; ok {
		return p
	}
	return -1
}

// all is all places, each once.
func (w *twin) all() []int {
	var l []int
	for p := w.top(); p >= 0 && p < 64 && !slices.Contains(l, p); p = w.under(p) {
		l = append(l, p)
	}
	return l
}

// looks holds a Look against what is on top.
func (w *twin) looks() {
	w.t.Helper()
	w.does("Look", 0, 0, 0)
	w.asked++
	if top, tag := w.s.Look(); top != w.top() || tag != w.tag() {
		w.fatal("Look: " + strconv.Itoa(top) + " " + strconv.FormatUint(tag, 10))
	}
	w.holds()
}

// puts holds a Put against who is there.
func (w *twin) puts(place, top int, tag uint64) (bool, api.Errno) {
	w.t.Helper()
	w.does("Put", place, top, tag)
	goes, f := false, api.OK
	switch {
	case place < 0 || place > 63 || top < -1 || top > 63:
		f = api.ErrArg
	case slices.Contains(w.all(), place):
		f = api.ErrThere
	default:
		w.below[place] = top
		goes = w.cas(tag, place)
	}
	w.answers(w.s.Put, place, top, tag, goes, f)
	return goes, f
}

// takes holds a Take against who is below.
func (w *twin) takes(top int, tag uint64) (bool, api.Errno) {
	w.t.Helper()
	w.does("Take", 0, top, tag)
	goes, f := false, api.ErrArg
	if top >= 0 && top <= 63 {
		goes, f = w.cas(tag, w.under(top)), api.OK
	}
	w.answers(func(_, top int, tag uint64) (bool, api.Errno) { return w.s.Take(top, tag) }, 0, top, tag, goes, f)
	return goes, f
}

func (w *twin) cas(tag uint64, place int) bool {
	w.asked++
	if tag != w.tag() {
		return false
	}
	w.words = append(w.words, uint64(place+1))
	return true
}

func (w *twin) answers(call func(place, top int, tag uint64) (bool, api.Errno), place, top int, tag uint64, goes bool, f api.Errno) {
	w.t.Helper()
	if is, e := call(place, top, tag); is != goes || e != f {
		w.fatal("answered " + strconv.FormatBool(is) + ", error " + strconv.Itoa(int(e)) + "; wanted " + strconv.FormatBool(goes) + ", error " + strconv.Itoa(int(f)))
	}
	w.holds()
}

// stores writes the cell past the stack.
func (w *twin) stores(word uint64) {
	w.does("Store", 0, 0, word)
	w.words = append(w.words, word)
	w.asked++
	w.s.Cell().Store(word)
}

// holds asks the stack of all that it tells, twice, since telling changes nothing, and asks nothing.
func (w *twin) holds() {
	w.t.Helper()
	want := state{w.word(), w.tag(), w.asked}
	for range 2 {
		if got := of(w.s); got != want {
			w.fatal("the cell: word " + strconv.FormatUint(got.word, 10) + ", tag " + strconv.FormatUint(got.tag, 10) + ", asked " + strconv.Itoa(got.asked))
		}
		if l := w.s.All(); !slices.Equal(l, w.all()) {
			w.fatal("All tells " + text(l) + "; wanted " + text(w.all()))
		}
	}
}

// row holds the stack against places that are written out.
func (w *twin) row(what string, places ...int) {
	w.t.Helper()
	if !slices.Equal(w.all(), places) {
		w.fatal(what + ": wanted " + text(places) + ", not " + text(w.all()))
	}
	w.holds()
}

// want holds what a call answered against what is written out.
func (w *twin) want(what string, goes bool, f api.Errno) func(is bool, e api.Errno) {
	return func(is bool, e api.Errno) {
		w.t.Helper()
		if is != goes || e != f {
			w.fatal(what + ": " + strconv.FormatBool(is) + ", error " + strconv.Itoa(int(e)))
		}
	}
}

func text(l []int) string {
	var b []string
	for _, x := range l {
		b = append(b, strconv.Itoa(x))
	}
	return "[" + strings.Join(b, " ") + "]"
}

// places are all there are, in an order that looks like none.
func places() []int {
	return rand.New(rand.NewPCG(13, 1)).Perm(64)
}
