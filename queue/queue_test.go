package queue_test

import (
	"math"
	"math/rand/v2"
	"slices"
	"strconv"
	"strings"
	"testing"

	"allotment/api"
	"allotment/queue"
)

const (
	greatest = math.MaxInt
	least    = math.MinInt
)

// strange are numbers that no test pushes, but where it says so.
func strange() []int {
	return []int{greatest, greatest - 1, least, least + 1, -1, 1 << 31, -1 << 31, 1 << 32, 1<<32 + 1, 1<<32 + 2, 1 << 62}
}

// twin is a queue, and beside it the rows that it is to have.
type twin struct {
	t           *testing.T
	q           *queue.Queue
	ready, full []int
	numbers     []int // all that may be in a row
	done        []deed
}

// deed is a call that was made, told only if a test fails.
type deed struct {
	what string
	x    []int
}

func newTwin(t *testing.T, numbers ...int) *twin {
	return &twin{t: t, q: &queue.Queue{}, numbers: numbers}
}

// of is a queue that has these rows.
func of(t *testing.T, ready, full []int) *twin {
	t.Helper()
	w := newTwin(t, slices.Concat(ready, full)...)
	w.pushes(full...)
	for _, x := range full {
		w.fills(x)
	}
	w.pushes(ready...)
	w.rows("made", ready, full)
	return w
}

func (w *twin) fatal(what string) {
	w.t.Helper()
	for _, d := range w.done {
		w.t.Log(d.what, text(d.x))
	}
	w.t.Fatal(what)
}

func (w *twin) does(what string, x ...int) {
	w.done = append(w.done, deed{what, slices.Clone(x)})
}

func (w *twin) answers(e, f api.Errno) {
	w.t.Helper()
	if e != f {
		w.fatal("error " + strconv.Itoa(int(e)) + "; wanted " + strconv.Itoa(int(f)))
	}
}

// without is a row that a number was taken from, and whether it was there.
func without(l []int, x int) ([]int, bool) {
	var rest []int
	for _, n := range l {
		if n != x {
			rest = append(rest, n)
		}
	}
	return rest, len(rest) < len(l)
}

func (w *twin) in(x int) bool { return slices.Contains(w.ready, x) || slices.Contains(w.full, x) }

// pushes holds a Push against the rows, and answers its error, as the others do.
func (w *twin) pushes(x ...int) api.Errno {
	w.t.Helper()
	w.does("Push", x...)
	f := api.OK
	for _, n := range x {
		if w.in(n) {
			f = api.ErrThere
			break
		}
		w.ready = append(w.ready, n)
	}
	w.answers(w.q.Push(x...), f)
	return f
}

func (w *twin) removes(x ...int) api.Errno {
	w.t.Helper()
	w.does("Remove", x...)
	f := api.OK
	for _, n := range x {
		if !w.in(n) {
			f = api.ErrNone
			break
		}
		w.ready, _ = without(w.ready, n)
		w.full, _ = without(w.full, n)
	}
	w.answers(w.q.Remove(x...), f)
	return f
}

func (w *twin) fills(x int) api.Errno {
	w.t.Helper()
	w.does("Fill", x)
	f := api.ErrNone
	if rest, ok := without(w.ready, x); ok {
		w.ready, w.full, f = rest, append(w.full, x), api.OK
	}
	w.answers(w.q.Fill(x), f)
	return f
}

func (w *twin) wakes(x int) api.Errno {
	w.t.Helper()
	w.does("Wake", x)
	f := api.ErrNone
	if rest, ok := without(w.full, x); ok {
		w.full, w.ready, f = rest, append(w.ready, x), api.OK
	}
	w.answers(w.q.Wake(x), f)
	return f
}

// holds asks the queue of all that it tells, some of it twice, since telling changes nothing.
func (w *twin) holds() {
	w.t.Helper()
	for range 2 {
		if l := w.q.Ready(); !slices.Equal(l, w.ready) {
			w.fatal("Ready tells " + text(l) + "; wanted " + text(w.ready))
		}
		if l := w.q.Full(); !slices.Equal(l, w.full) {
			w.fatal("Full tells " + text(l) + "; wanted " + text(w.full))
		}
		if l, all := w.q.All(), slices.Concat(w.ready, w.full); !slices.Equal(l, all) || !w.q.Has(all...) {
			w.fatal("All tells " + text(l) + "; wanted " + text(all) + ", or Has doesn't have all")
		}
	}
	if !w.q.Has() {
		w.fatal("Has of none")
	}
	for i, x := range w.numbers {
		if w.q.Has(x) != w.in(x) || w.q.Has(x, x) != w.in(x) {
			w.fatal("Has " + strconv.Itoa(x))
		}
		y := w.numbers[(i+1)%len(w.numbers)]
		if both := w.in(x) && w.in(y); w.q.Has(x, y) != both || w.q.Has(y, x) != both {
			w.fatal("Has both " + text([]int{x, y}))
		}
	}
}

func text(l []int) string {
	var b []string
	for _, x := range l {
		b = append(b, strconv.Itoa(x))
	}
	return "[" + strings.Join(b, " ") + "]"
}

// rows holds the queue against rows that are written out.
func (w *twin) rows(what string, ready, full []int) {
	w.t.Helper()
	if !slices.Equal(w.ready, ready) || !slices.Equal(w.full, full) {
		w.fatal(what + ": wanted " + text(ready) + " and " + text(full))
	}
	w.holds()
}

func (w *twin) want(what string, e, f api.Errno) {
	w.t.Helper()
	if e != f {
		w.fatal(what + ": error " + strconv.Itoa(int(e)) + "; wanted " + strconv.Itoa(int(f)))
	}
}

// The chapter's example.
func TestExamples(t *testing.T) {
	q := &queue.Queue{}
	for _, e := range []api.Errno{q.Push(1, 2, 3), q.Fill(1), q.Push(4), q.Wake(1)} {
		if e != api.OK {
			t.Errorf("error %d", e)
		}
	}
	if l := q.Ready(); !slices.Equal(l, []int{2, 3, 4, 1}) || len(q.Full()) != 0 || !slices.Equal(q.All(), l) {
		t.Error(l, q.Full(), q.All())
	}
}

// P11.1 to P11.3: a Queue's zero value is one, of no numbers; what is asked of it leaves it so.
func TestZeroValue(t *testing.T) {
	var q queue.Queue
	if len(q.Ready()) != 0 || len(q.Full()) != 0 || len(q.All()) != 0 || !q.Has() || q.Has(0) || q.Has(1, 0) {
		t.Error(q.Ready(), q.Full(), q.All())
	}
	for _, x := range append(strange(), 0, 1) {
		for _, e := range []api.Errno{q.Remove(x), q.Remove(x, x), q.Fill(x), q.Wake(x)} {
			if e != api.ErrNone {
				t.Errorf("of %d: error %d", x, e)
			}
		}
		if q.Has(x) {
			t.Errorf("Has %d", x)
		}
	}
	if e, f := q.Push(), q.Remove(); e != api.OK || f != api.OK {
		t.Errorf("errors %d, %d", e, f)
	}
	if len(q.All()) != 0 {
		t.Error(q.All())
	}
	if e := q.Push(0); e != api.OK || !slices.Equal(q.Ready(), []int{0}) || !q.Has(0) {
		t.Errorf("Push: error %d, %v", e, q.Ready())
	}
}

// P11.1 to P11.3: a nil Queue answers ErrNil, of no numbers too; the others are zero: Has of none is false.
func TestNil(t *testing.T) {
	var q *queue.Queue
	for _, e := range []api.Errno{q.Push(), q.Push(1), q.Push(1, 1), q.Remove(), q.Remove(1), q.Remove(1, 2), q.Fill(0), q.Fill(1), q.Wake(0), q.Wake(1)} {
		if e != api.ErrNil {
			t.Errorf("error %d", e)
		}
	}
	if len(q.Ready()) != 0 || len(q.Full()) != 0 || len(q.All()) != 0 || q.Has() || q.Has(0) || q.Has(1, 2) {
		t.Error(q.Ready(), q.Full(), q.All())
	}
}

// P11.1: none at all, one, and many in one call stand behind the ready ones, in order, whether rows are empty or not.
func TestPush(t *testing.T) {
	w := newTwin(t, 1, 2, 3, 4, 5, 6, 7, 8)
	w.want("of none", w.pushes(), api.OK)
	w.rows("of none", nil, nil)
	w.want("of one", w.pushes(5), api.OK)
	w.rows("of one", []int{5}, nil)
	w.pushes()
	w.want("of many", w.pushes(3, 8, 1, 7), api.OK)
	w.rows("of many", []int{5, 3, 8, 1, 7}, nil)
	w.fills(8)
	w.pushes(2, 6)
	w.rows("beside a full one", []int{5, 3, 1, 7, 2, 6}, []int{8})
	for _, x := range []int{5, 3, 1, 7, 2, 6} {
		w.fills(x)
	}
	w.pushes(4)
	w.rows("no ready ones", []int{4}, []int{8, 5, 3, 1, 7, 2, 6})
}

// P11.1: one that is there, in either row, or ahead in the same call, is refused: those ahead are in, it and those behind aren't.
func TestPushOfWhatIsThere(t *testing.T) {
	for _, there := range []int{1, 2, 3, 4, 5, 6} {
		w := of(t, []int{1, 2, 3}, []int{4, 5, 6})
		w.numbers = append(w.numbers, 7, 8, 9)
		w.want("alone", w.pushes(there), api.ErrThere)
		w.rows("alone", []int{1, 2, 3}, []int{4, 5, 6})
		w.want("first", w.pushes(there, 7), api.ErrThere)
		w.rows("first", []int{1, 2, 3}, []int{4, 5, 6})
		w.want("last", w.pushes(7, 8, there), api.ErrThere)
		w.rows("last", []int{1, 2, 3, 7, 8}, []int{4, 5, 6})
		w.want("in the midst", w.pushes(9, there, 10, 11), api.ErrThere)
		w.rows("in the midst", []int{1, 2, 3, 7, 8, 9}, []int{4, 5, 6})
		if w.q.Has(10) || w.q.Has(11) {
			t.Error("what stood behind is in")
		}
	}
	w := newTwin(t, 1, 2, 3)
	w.want("twice", w.pushes(1, 1), api.ErrThere)
	w.rows("twice", []int{1}, nil)
	w.want("twice, with others", w.pushes(2, 3, 2, 4), api.ErrThere)
	w.rows("twice, with others", []int{1, 2, 3}, nil)
}

// P11.1: none at all, one, and many go from wherever they are, in whatever order they are told; the others stay in theirs.
func TestRemove(t *testing.T) {
	ready, full := []int{1, 2, 3, 4, 5}, []int{6, 7, 8, 9, 10}
	for _, x := range slices.Concat(ready, full) {
		w := of(t, ready, full)
		w.want("one", w.removes(x), api.OK)
		r, _ := without(ready, x)
		f, _ := without(full, x)
		w.rows("one", r, f)
		w.want("again", w.removes(x), api.ErrNone)
		w.rows("again", r, f)
		w.want("and back", w.pushes(x), api.OK)
		w.rows("and back", append(r, x), f)
	}
	w := of(t, ready, full)
	w.want("none", w.removes(), api.OK)
	w.rows("none", ready, full)
	w.want("many", w.removes(5, 6, 8, 1, 10, 3), api.OK)
	w.rows("many", []int{2, 4}, []int{7, 9})
	w.want("all", w.removes(9, 4, 7, 2), api.OK)
	w.rows("all", nil, nil)
}

// P11.1: one that is in neither row, or went ahead in the same call, is refused: those ahead went, those behind stay.
func TestRemoveOfNone(t *testing.T) {
	for _, none := range append(strange(), 0, 9, -2) {
		w := of(t, []int{1, 2, 3}, []int{4, 5, 6})
		w.want("alone", w.removes(none), api.ErrNone)
		w.want("first", w.removes(none, 1, 4), api.ErrNone)
		w.rows("first", []int{1, 2, 3}, []int{4, 5, 6})
		w.want("last", w.removes(2, 6, none), api.ErrNone)
		w.rows("last", []int{1, 3}, []int{4, 5})
		w.want("in the midst", w.removes(4, 3, none, 1, 5), api.ErrNone)
		w.rows("in the midst", []int{1}, []int{5})
	}
	w := of(t, []int{1, 2}, []int{3, 4})
	w.want("twice", w.removes(1, 1), api.ErrNone)
	w.want("twice, of a full one", w.removes(3, 3, 2, 4), api.ErrNone)
	w.rows("twice", []int{2}, []int{4})
}

// P11.2 and P11.4: the first, the last, and each in the midst: filled it stands behind the full ones, the others stay in order; again it is refused.
func TestFill(t *testing.T) {
	for n := 1; n <= 5; n++ {
		ready := []int{11, 12, 13, 14, 15}[:n]
		for _, full := range [][]int{nil, {21}, {21, 22, 23}} {
			for _, x := range ready {
				w := of(t, ready, full)
				w.want("a ready one", w.fills(x), api.OK)
				rest, _ := without(ready, x)
				w.rows("a ready one", rest, append(slices.Clone(full), x))
				w.want("a full one", w.fills(x), api.ErrNone)
				w.want("a full one", w.pushes(x), api.ErrThere)
				w.rows("a full one", rest, append(slices.Clone(full), x))
			}
			w := of(t, ready, full)
			for _, x := range append(append(strange(), 0, 16, 24), full...) {
				w.want("none that is ready", w.fills(x), api.ErrNone)
				w.rows("none that is ready", ready, full)
			}
		}
	}
}

// P11.2 and P11.4: the first, the last, and each in the midst: woken it stands behind the ready ones, the others stay in order; again it is refused.
func TestWake(t *testing.T) {
	for n := 1; n <= 5; n++ {
		full := []int{11, 12, 13, 14, 15}[:n]
		for _, ready := range [][]int{nil, {21}, {21, 22, 23}} {
			for _, x := range full {
				w := of(t, ready, full)
				w.want("a full one", w.wakes(x), api.OK)
				rest, _ := without(full, x)
				w.rows("a full one", append(slices.Clone(ready), x), rest)
				w.want("a ready one", w.wakes(x), api.ErrNone)
				w.want("a ready one", w.pushes(x), api.ErrThere)
				w.rows("a ready one", append(slices.Clone(ready), x), rest)
			}
			w := of(t, ready, full)
			for _, x := range append(append(strange(), 0, 16, 24), ready...) {
				w.want("none that is full", w.wakes(x), api.ErrNone)
				w.rows("none that is full", ready, full)
			}
		}
	}
}

// P11.2 and P11.4: one alone in its row goes to and fro, and one among others comes to stand last each time.
func TestToAndFro(t *testing.T) {
	for _, others := range [][]int{nil, {1}, {1, 2}} {
		w := of(t, append([]int{7}, others...), nil)
		for range 3 {
			w.want("Fill", w.fills(7), api.OK)
			w.rows("filled", others, []int{7})
			w.want("Wake", w.wakes(7), api.OK)
			w.rows("woken", append(slices.Clone(others), 7), nil)
		}
	}
	w := of(t, nil, []int{1, 2, 3})
	for _, x := range []int{2, 1, 3} {
		w.wakes(x)
	}
	w.rows("all woken", []int{2, 1, 3}, nil)
	for _, x := range []int{3, 2, 1} {
		w.fills(x)
	}
	w.rows("all filled", nil, []int{3, 2, 1})
}

// P11.1 and P11.2: rows that became empty, in any way, are used again as new ones.
func TestRowsThatWereEmpty(t *testing.T) {
	w := newTwin(t, 1, 2, 3, 4)
	for range 3 {
		w.pushes(1, 2, 3)
		w.removes(2, 3, 1)
		w.rows("removed", nil, nil)
		w.pushes(3, 1)
		w.fills(3)
		w.fills(1)
		w.rows("filled", nil, []int{3, 1})
		w.wakes(1)
		w.wakes(3)
		w.rows("woken", []int{1, 3}, nil)
		w.fills(1)
		w.removes(1)
		w.rows("the full one removed", []int{3}, nil)
		w.pushes(4)
		w.fills(4)
		w.rows("and another one filled", []int{3}, []int{4})
		w.removes(3)
		w.rows("the ready one removed", nil, []int{4})
		w.pushes(2)
		w.removes(4, 2)
		w.rows("both removed", nil, nil)
	}
}

// P11.1: one that was removed, from either row, has left nothing behind: pushed again it is ready, and last.
func TestPushedAgain(t *testing.T) {
	for _, x := range []int{1, 2, 3, 4} {
		w := of(t, []int{1, 2}, []int{3, 4})
		w.removes(x)
		w.want("Fill", w.fills(x), api.ErrNone)
		w.want("Wake", w.wakes(x), api.ErrNone)
		w.pushes(x)
		ready, _ := without([]int{1, 2}, x)
		full, _ := without([]int{3, 4}, x)
		w.rows("pushed again", append(ready, x), full)
		w.want("Wake", w.wakes(x), api.ErrNone)
		w.want("Fill", w.fills(x), api.OK)
		w.rows("filled", ready, append(full, x))
	}
}

// P11.1 to P11.3: the least and the greatest number, and those that would be others, were a part of them cut off, are numbers as any.
func TestStrangeNumbers(t *testing.T) {
	l := append(strange(), 0, 1, 2, -2)
	w := newTwin(t, l...)
	for i, x := range l {
		w.want("Push", w.pushes(x), api.OK)
		w.rows("Push", l[:i+1], nil)
		w.want("Push again", w.pushes(x), api.ErrThere)
	}
	for i, x := range l {
		w.want("Fill", w.fills(x), api.OK)
		w.rows("Fill", l[i+1:], l[:i+1])
	}
	for i, x := range l {
		w.want("Wake", w.wakes(x), api.OK)
		w.rows("Wake", l[:i+1], l[i+1:])
	}
	for i, x := range l {
		w.want("Remove", w.removes(x), api.OK)
		w.rows("Remove", l[i+1:], nil)
	}
}

// P11.3: Has of some that are in, of either row, and of one that isn't, wherever it stands among them; twice counts as once.
func TestHas(t *testing.T) {
	w := of(t, []int{1, 2}, []int{3, 4})
	for _, l := range [][]int{{}, {1}, {4}, {1, 2, 3, 4}, {4, 1}, {3, 2, 3, 2}, {1, 1, 1, 1, 1, 1}} {
		if !w.q.Has(l...) {
			t.Error("Has not", l)
		}
	}
	for _, none := range append(strange(), 0, 5) {
		for _, l := range [][]int{{none}, {none, 1}, {4, none}, {1, 2, none, 3, 4}, {none, none}} {
			if w.q.Has(l...) {
				t.Error("Has", l)
			}
		}
	}
	w.holds()
}

// P11.3: a row that was handed out is new memory, its spare room too: written over, it changes neither the queue nor another row.
func TestRowsAreNew(t *testing.T) {
	for _, x := range [][2][]int{{{1, 2, 3}, {4, 5}}, {{1, 2, 3}, nil}, {nil, {4, 5}}, {{1}, {2}}, {nil, nil}} {
		w := of(t, x[0], x[1])
		tell := []func() []int{w.q.Ready, w.q.Full, w.q.All}
		for _, f := range tell {
			var others [][]int
			for _, g := range tell {
				others = append(others, g())
			}
			l := f()
			l = l[:cap(l)]
			for i := range l {
				l[i] = greatest
			}
			w.rows("a row is written over", x[0], x[1])
			for i, want := range [][]int{x[0], x[1], slices.Concat(x[0], x[1])} {
				if !slices.Equal(others[i], want) {
					t.Error("two answers share", others[i])
				}
			}
		}
		// Nor is what is handed out later written into what was handed out.
		ready, full, all := w.q.Ready(), w.q.Full(), w.q.All()
		_, _, _ = append(ready, 91), append(full, 92), append(all, 93)
		w.pushes(6, 7)
		w.fills(6)
		w.holds()
		if !slices.Equal(ready, x[0]) || !slices.Equal(full, x[1]) || !slices.Equal(all, slices.Concat(x[0], x[1])) {
			t.Error("a row that was handed out changed", ready, full, all)
		}
	}
}

// What is handed in stays as it is, its spare room too, and isn't kept.
func TestArgumentsStay(t *testing.T) {
	l := []int{1, 2, 3, 4, 5}
	w := newTwin(t, 1, 2, 3, 4, 5)
	w.pushes(l[:3]...)
	w.q.Has(l[:2]...)
	w.removes(l[1:2]...)
	w.pushes(l[3:4]...)
	if !slices.Equal(l, []int{1, 2, 3, 4, 5}) {
		t.Error(l)
	}
	clear(l)
	w.rows("what was handed in is written over", []int{1, 3, 4}, nil)
	if w.q.Has(0) {
		t.Error("Has 0")
	}
}

// Two queues have nothing of one another.
func TestTwoQueues(t *testing.T) {
	a, b := newTwin(t, 1, 2, 3), newTwin(t, 1, 2, 3)
	a.pushes(1, 2, 3)
	b.rows("none", nil, nil)
	b.pushes(3, 1)
	b.fills(3)
	a.fills(1)
	a.removes(2)
	a.rows("one", []int{3}, []int{1})
	b.rows("the other one", []int{1}, []int{3})
	b.want("Wake", b.wakes(1), api.ErrNone)
	a.want("Wake", a.wakes(1), api.OK)
	a.holds()
	b.holds()
}

// calls are some for each of the numbers 1 to n, and some of several numbers.
func calls(n int) []func(w *twin) {
	var l []func(w *twin)
	for x := 1; x <= n; x++ {
		l = append(l,
			func(w *twin) { w.pushes(x) },
			func(w *twin) { w.removes(x) },
			func(w *twin) { w.fills(x) },
			func(w *twin) { w.wakes(x) })
	}
	return append(l, func(w *twin) { w.pushes(2, 1) }, func(w *twin) { w.removes(1, 2) })
}

// P11.1 to P11.4: all rows of four calls of three numbers, and of five of two.
func TestAllShortRows(t *testing.T) {
	for _, x := range []struct{ numbers, calls int }{{3, 4}, {2, 5}} {
		l := calls(x.numbers)
		var row []int
		var goOn func()
		goOn = func() {
			w := newTwin(t, 1, 2, 3)
			for _, i := range row {
				l[i](w)
			}
			w.holds()
			if len(row) == x.calls {
				return
			}
			for i := range l {
				row = append(row, i)
				goOn()
				row = row[:len(row)-1]
			}
		}
		goOn()
	}
}

// states hands on all pairs of rows that have some of the numbers 1 to n.
func states(n int, yield func(ready, full []int)) {
	var l []int
	var goOn func()
	goOn = func() {
		for i := range len(l) + 1 {
			yield(slices.Clone(l[:i]), slices.Clone(l[i:]))
		}
		for x := 1; x <= n; x++ {
			if !slices.Contains(l, x) {
				l = append(l, x)
				goOn()
				l = l[:len(l)-1]
			}
		}
	}
	goOn()
}

// P11.1 to P11.4: of all rows of up to four numbers, each call, and each two.
func TestAllRows(t *testing.T) {
	l := calls(4)
	met := 0
	states(4, func(ready, full []int) {
		met++
		for _, one := range l {
			w := of(t, ready, full)
			one(w)
			w.holds()
			for _, other := range l {
				w := of(t, ready, full)
				one(w)
				other(w)
				w.holds()
			}
		}
	})
	if met != 261 {
		t.Error(met, "rows")
	}
}

// once says that each number is in one row at most, and All is of both rows.
func (w *twin) once() {
	w.t.Helper()
	l := w.q.All()
	if len(l) != len(w.q.Ready())+len(w.q.Full()) {
		w.fatal("All is another row than both")
	}
	slices.Sort(l)
	if len(slices.Compact(l)) != len(w.q.All()) {
		w.fatal("a number stands twice")
	}
}

// last says that a number stands last in a row.
func (w *twin) last(row []int, x int) {
	w.t.Helper()
	if len(row) == 0 || row[len(row)-1] != x {
		w.fatal("not the last one of " + text(row))
	}
}

// P11.1 to P11.4: long rows of calls of some numbers, few and many; each number is in one row at most, filled and woken it stands last.
func TestLongRows(t *testing.T) {
	r := rand.New(rand.NewPCG(11, 4))
	met := map[api.Errno]int{}
	for _, n := range []int{1, 2, 3, 5, 12, 40} {
		for range 8 {
			numbers := r.Perm(n)
			if r.IntN(2) == 0 {
				numbers = append(numbers, greatest, least)
			}
			w := newTwin(t, numbers...)
			some := func() []int {
				var l []int
				for range r.IntN(4) {
					l = append(l, numbers[r.IntN(len(numbers))])
				}
				return l
			}
			for range 600 {
				x := numbers[r.IntN(len(numbers))]
				switch r.IntN(6) {
				case 0, 1:
					met[w.pushes(some()...)]++
				case 2:
					met[w.removes(some()...)]++
				case 3, 4:
					if e := w.fills(x); e == api.OK {
						w.last(w.q.Full(), x)
					}
				case 5:
					if e := w.wakes(x); e == api.OK {
						w.last(w.q.Ready(), x)
					}
				}
				w.holds()
				w.once()
			}
		}
	}
	for _, e := range []api.Errno{api.OK, api.ErrThere, api.ErrNone} {
		if met[e] < 500 {
			t.Errorf("error %d: %d times", e, met[e])
		}
	}
}

// P11.1 to P11.3: very many numbers in one call, and one by one, end soon: none is looked for among all the others.
func TestVeryMany(t *testing.T) {
	const n = 200000
	q, l := &queue.Queue{}, make([]int, n)
	for i := range l {
		l[i] = 3*i - n
	}
	want := func(what string, e api.Errno) {
		t.Helper()
		if e != api.OK {
			t.Fatalf("%s: error %d", what, e)
		}
	}
	want("Push", q.Push(l...))
	if e := q.Push(least, l[n-1]); e != api.ErrThere {
		t.Errorf("Push: error %d", e)
	}
	want("Remove", q.Remove(least))
	for _, x := range l {
		want("Fill", q.Fill(x))
	}
	if !slices.Equal(q.Full(), l) || len(q.Ready()) != 0 || !slices.Equal(q.All(), l) || !q.Has(l...) {
		t.Error("filled")
	}
	slices.Reverse(l)
	for _, x := range l {
		want("Wake", q.Wake(x))
	}
	if !slices.Equal(q.Ready(), l) || len(q.Full()) != 0 {
		t.Error("woken")
	}
	want("Remove", q.Remove(l[:n-1]...))
	if !slices.Equal(q.All(), l[n-1:]) {
		t.Error("removed")
	}
}
