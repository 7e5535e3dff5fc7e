package mark_test

import (
	"math"
	"math/rand/v2"
	"slices"
	"strings"
	"testing"

	"allotment/api"
	"allotment/mark"
)

const (
	most     = 256
	greatest = math.MaxInt
	least    = math.MinInt
)

// The tests tell places by a text: a taken one is an x, a free one a point.

func free(n int) string  { return strings.Repeat(".", n) }
func taken(n int) string { return strings.Repeat("x", n) }

// with is a text in which run places from at on are other ones.
func with(s string, at, run int, place string) string {
	return s[:at] + strings.Repeat(place, run) + s[at+run:]
}

// longest is how many free places a text has in a row at most.
func longest(s string) int {
	n := 0
	for strings.Contains(s, free(n+1)) {
		n++
	}
	return n
}

func made(t *testing.T, n int) *mark.Marks {
	t.Helper()
	m, e := mark.New(n)
	if e != api.OK || m == nil {
		t.Fatalf("New(%d): %v, error %d", n, m, e)
	}
	return m
}

// of is marks that hold what a text tells.
func of(t *testing.T, s string) *mark.Marks {
	t.Helper()
	m := made(t, len(s))
	for i := range len(s) {
		if s[i] == 'x' {
			want(t, "Mark", m.Mark(i, 1), api.OK)
		}
	}
	return m
}

// told is the text of n places.
func told(m *mark.Marks, n int) string {
	b := []byte(free(n))
	for i := range b {
		if m.Has(i) {
			b[i] = 'x'
		}
	}
	return string(b)
}

func want(t *testing.T, what string, e, f api.Errno) {
	t.Helper()
	if e != f {
		t.Errorf("%s: error %d; wanted %d", what, e, f)
	}
}

// holds says that marks are those of a text, and tell so in all their ways.
func holds(t *testing.T, what string, m *mark.Marks, s string) {
	t.Helper()
	if got := told(m, len(s)); got != s {
		t.Errorf("%s: %s; wanted %s", what, got, s)
	}
	if n := strings.Count(s, "."); m.Left() != n {
		t.Errorf("%s: %s: Left %d; wanted %d", what, s, m.Left(), n)
	}
	if n := longest(s); m.Longest() != n {
		t.Errorf("%s: %s: Longest %d; wanted %d", what, s, m.Longest(), n)
	}
	for _, i := range []int{-1, len(s), len(s) + 1, most, greatest, least} {
		if m.Has(i) {
			t.Errorf("%s: %s: Has(%d)", what, s, i)
		}
	}
}

func takes(t *testing.T, m *mark.Marks, run, at int, f api.Errno) {
	t.Helper()
	if got, e := m.Take(run); got != at || e != f {
		t.Errorf("Take(%d): %d, error %d; wanted %d, error %d", run, got, e, at, f)
	}
}

// P3.1
func TestNewOfNumbersThatMayNotBe(t *testing.T) {
	for _, n := range []int{0, -1, -2, -256, 257, 258, 512, 1000, 1<<16 | 4, 1<<32 | 4, greatest, greatest - 1, least, least + 4} {
		if m, e := mark.New(n); m != nil || e != api.ErrArg {
			t.Errorf("New(%d): %v, error %d", n, m, e)
		}
	}
}

// P3.1 and P3.2: all numbers of places; all are free, and can be taken at once.
func TestNew(t *testing.T) {
	for n := 1; n <= most; n++ {
		m := made(t, n)
		holds(t, "New", m, free(n))
		takes(t, m, n, 0, api.OK)
		holds(t, "Take of all", m, taken(n))
		takes(t, m, 1, 0, api.ErrFull)
		takes(t, m, n, 0, api.ErrFull)
		want(t, "Free of all", m.Free(0, n), api.OK)
		holds(t, "Free of all", m, free(n))
		want(t, "Mark of all", m.Mark(0, n), api.OK)
		holds(t, "Mark of all", m, taken(n))
	}
}

// P3.1 and P3.2: one place alone.
func TestOnePlace(t *testing.T) {
	m := made(t, 1)
	takes(t, m, 0, 0, api.ErrArg)
	takes(t, m, 2, 0, api.ErrArg)
	want(t, "Free", m.Free(0, 1), api.ErrNone)
	want(t, "Mark behind it", m.Mark(1, 1), api.ErrArg)
	want(t, "Mark beyond it", m.Mark(0, 2), api.ErrArg)
	holds(t, "all refused", m, ".")
	takes(t, m, 1, 0, api.OK)
	holds(t, "Take", m, "x")
	takes(t, m, 1, 0, api.ErrFull)
	want(t, "Mark", m.Mark(0, 1), api.ErrThere)
	want(t, "Free", m.Free(0, 1), api.OK)
	holds(t, "Free", m, ".")
}

// Of a nil Marks: ErrNil, ahead of ErrArg, and zero.
func TestNil(t *testing.T) {
	var m *mark.Marks
	for _, at := range []int{0, 1, -1, greatest, least} {
		for _, run := range []int{1, 0, -1, 300, greatest, least} {
			takes(t, m, run, 0, api.ErrNil)
			want(t, "Mark", m.Mark(at, run), api.ErrNil)
			want(t, "Free", m.Free(at, run), api.ErrNil)
		}
		if m.Has(at) || m.Has(at, at) {
			t.Errorf("Has(%d)", at)
		}
	}
	if m.Has() || m.Left() != 0 || m.Longest() != 0 {
		t.Error(m.Has(), m.Left(), m.Longest())
	}
}

// Marks that New didn't make have no places.
func TestZeroValue(t *testing.T) {
	m := &mark.Marks{}
	takes(t, m, 0, 0, api.ErrArg)
	takes(t, m, 1, 0, api.ErrArg)
	want(t, "Mark", m.Mark(0, 1), api.ErrArg)
	want(t, "Free", m.Free(0, 1), api.ErrArg)
	if m.Has(0) || !m.Has() || m.Left() != 0 || m.Longest() != 0 {
		t.Error(m.Has(0), m.Has(), m.Left(), m.Longest())
	}
}

// P3.1: of none, of some, of the same ones, and of what is no place.
func TestHas(t *testing.T) {
	m := of(t, "xx.x..x")
	for _, x := range []struct {
		at []int
		ok bool
	}{
		{nil, true},
		{[]int{}, true},
		{[]int{0}, true},
		{[]int{2}, false},
		{[]int{6}, true},
		{[]int{7}, false},
		{[]int{-1}, false},
		{[]int{0, 1, 3, 6}, true},
		{[]int{6, 3, 1, 0}, true},
		{[]int{3, 3, 3}, true},
		{[]int{0, 1, 2, 3}, false},
		{[]int{5, 6}, false},
		{[]int{6, 5}, false},
		{[]int{2, 2}, false},
		{[]int{0, 7}, false},
		{[]int{7, 0}, false},
		{[]int{0, -1}, false},
		{[]int{-1, 0}, false},
		{[]int{0, -7}, false},
		{[]int{1, greatest}, false},
		{[]int{least, 1}, false},
		{[]int{1<<32 | 1}, false},
		{[]int{256}, false},
	} {
		if m.Has(x.at...) != x.ok {
			t.Errorf("Has%v: %v", x.at, !x.ok)
		}
	}
	holds(t, "Has", m, "xx.x..x")
}

// P3.1: of none it is so, whatever is taken.
func TestHasOfNone(t *testing.T) {
	for _, s := range []string{".", "x", "....", "xxxx", ".x.x"} {
		if m := of(t, s); !m.Has() || !m.Has([]int{}...) {
			t.Errorf("%s: Has of none", s)
		}
	}
}

// P3.1: the longest row is at either end, in the middle, there twice, or all.
func TestLongest(t *testing.T) {
	for _, x := range []struct {
		s string
		n int
	}{
		{"x", 0},
		{".", 1},
		{"xxxxx", 0},
		{".....", 5},
		{"...x.x..", 3},
		{"..x.x...", 3},
		{".x...x..", 3},
		{"..x..x..", 2},
		{"x......x", 6},
		{"xxxxxxx.", 1},
		{".xxxxxxx", 1},
		{".x.x.x.x", 1},
		{free(200) + "x" + free(55), 200},
		{free(55) + "x" + free(200), 200},
		{free(80) + "x" + free(94) + "x" + free(80), 94},
		{"x" + free(255), 255},
		{free(255) + "x", 255},
		{free(256), 256},
		{taken(255) + ".", 1},
		{"." + taken(255), 1},
		{free(128) + taken(128), 128},
		{taken(128) + free(128), 128},
	} {
		m := of(t, x.s)
		if m.Longest() != x.n || m.Left() != strings.Count(x.s, ".") {
			t.Errorf("%s: Longest %d, Left %d", x.s, m.Longest(), m.Left())
		}
		if x.n > 0 {
			takes(t, m, x.n, strings.Index(x.s, free(x.n)), api.OK)
		}
		if x.n < len(x.s) {
			takes(t, of(t, x.s), x.n+1, 0, api.ErrFull)
		}
	}
}

// The chapter's examples.
func TestExamples(t *testing.T) {
	m := made(t, 4)
	takes(t, m, 2, 0, api.OK)
	takes(t, m, 1, 2, api.OK)
	want(t, "Free", m.Free(0, 2), api.OK)
	takes(t, m, 1, 0, api.OK)
	holds(t, "the examples", m, "x.x.")
	if m.Longest() != 1 {
		t.Error(m.Longest())
	}
}

// P3.2: the lowest row that is long enough, be it longer, or one of several.
func TestTake(t *testing.T) {
	for _, x := range []struct {
		s       string
		run, at int
		e       api.Errno
		then    string
	}{
		{"....", 1, 0, api.OK, "x..."},
		{"....", 3, 0, api.OK, "xxx."},
		{"....", 4, 0, api.OK, "xxxx"},
		{"x...", 1, 1, api.OK, "xx.."},
		{".x..", 1, 0, api.OK, "xx.."},
		{".x..", 2, 2, api.OK, ".xxx"},
		{".x...x..", 2, 2, api.OK, ".xxx.x.."},
		{"..x..x..", 2, 0, api.OK, "xxx..x.."},
		{".x..x...", 3, 5, api.OK, ".x..xxxx"},
		{".x.x....", 2, 4, api.OK, ".x.xxx.."},
		{"x......x", 6, 1, api.OK, "xxxxxxxx"},
		{"..x.", 3, 0, api.ErrFull, "..x."},
		{".x.x", 2, 0, api.ErrFull, ".x.x"},
		{"xxxx", 1, 0, api.ErrFull, "xxxx"},
		{"...x", 4, 0, api.ErrFull, "...x"},
		{"x...", 4, 0, api.ErrFull, "x..."},
		{"...x", 5, 0, api.ErrArg, "...x"},
		{"....", 5, 0, api.ErrArg, "...."},
		{"....", 0, 0, api.ErrArg, "...."},
		{"xxxx", 0, 0, api.ErrArg, "xxxx"},
		{"....", -1, 0, api.ErrArg, "...."},
		{"....", -4, 0, api.ErrArg, "...."},
		{"xxxx", 5, 0, api.ErrArg, "xxxx"},
		{"....", greatest, 0, api.ErrArg, "...."},
		{"....", least, 0, api.ErrArg, "...."},
		{"....", least + 2, 0, api.ErrArg, "...."},
		{"....", 1<<32 | 2, 0, api.ErrArg, "...."},
		{free(256), 256, 0, api.OK, taken(256)},
		{free(256), 257, 0, api.ErrArg, free(256)},
		{taken(255) + ".", 1, 255, api.OK, taken(256)},
		{"x" + free(255), 255, 1, api.OK, taken(256)},
		{"x" + free(255), 256, 0, api.ErrFull, "x" + free(255)},
		{free(100) + "x" + free(155), 101, 101, api.OK, free(100) + taken(102) + free(54)},
	} {
		m := of(t, x.s)
		takes(t, m, x.run, x.at, x.e)
		holds(t, "Take", m, x.then)
	}
}

// P3.2: what Mark and Free answer, and that they do nothing beside an error.
func TestMarkAndFree(t *testing.T) {
	for _, x := range []struct {
		s         string
		at, run   int
		mark      api.Errno
		free      api.Errno
		then, now string
	}{
		{"....", 0, 1, api.OK, api.ErrNone, "x...", "...."},
		{"....", 3, 1, api.OK, api.ErrNone, "...x", "...."},
		{"....", 1, 2, api.OK, api.ErrNone, ".xx.", "...."},
		{"....", 0, 4, api.OK, api.ErrNone, "xxxx", "...."},
		{"xxxx", 0, 4, api.ErrThere, api.OK, "xxxx", "...."},
		{"xxxx", 1, 2, api.ErrThere, api.OK, "xxxx", "x..x"},
		{"xxxx", 3, 1, api.ErrThere, api.OK, "xxxx", "xxx."},
		{"x..x", 1, 2, api.OK, api.ErrNone, "xxxx", "x..x"},
		{".xx.", 1, 2, api.ErrThere, api.OK, ".xx.", "...."},
		{"..x.", 0, 3, api.ErrThere, api.ErrNone, "..x.", "..x."},
		{"x...", 0, 3, api.ErrThere, api.ErrNone, "x...", "x..."},
		{".x..", 0, 3, api.ErrThere, api.ErrNone, ".x..", ".x.."},
		{"xx.x", 0, 4, api.ErrThere, api.ErrNone, "xx.x", "xx.x"},
		{".xxx", 0, 4, api.ErrThere, api.ErrNone, ".xxx", ".xxx"},
		{"xxx.", 0, 4, api.ErrThere, api.ErrNone, "xxx.", "xxx."},
	} {
		m := of(t, x.s)
		want(t, "Mark", m.Mark(x.at, x.run), x.mark)
		holds(t, "Mark", m, x.then)
		m = of(t, x.s)
		want(t, "Free", m.Free(x.at, x.run), x.free)
		holds(t, "Free", m, x.now)
	}
}

// noRows are rows that aren't all places, of four; some wrap round.
func noRows() [][2]int {
	return [][2]int{
		{0, 0}, {1, 0}, {3, 0}, {4, 0}, {-1, 0}, {0, -1}, {1, -1}, {3, -3}, {4, -4}, {4, -1}, {0, least}, {3, least}, {-1, least}, {least, least},
		{-1, 1}, {-1, 2}, {-1, 5}, {-4, 4}, {-4, 8}, {least, 1}, {least, greatest}, {least + 1, greatest}, {-greatest, greatest}, {-3, greatest},
		{4, 1}, {5, 1}, {4, 4}, {0, 5}, {1, 4}, {2, 3}, {3, 2}, {0, 256}, {256, 1}, {1<<32 | 1, 1}, {1, 1<<32 | 1},
		{greatest, 1}, {greatest, 2}, {greatest, greatest}, {greatest - 1, 2}, {1, greatest}, {3, greatest}, {3, greatest - 2}, {0, greatest}, {2, greatest - 1},
	}
}

// P3.2: ErrArg, whatever is taken, and nothing is done.
func TestRowsThatMayNotBe(t *testing.T) {
	for _, s := range []string{"....", "xxxx", "x.x.", ".x.x", "x..x"} {
		m := of(t, s)
		for _, r := range noRows() {
			if e := m.Mark(r[0], r[1]); e != api.ErrArg {
				t.Errorf("%s: Mark(%d, %d): error %d", s, r[0], r[1], e)
			}
			if e := m.Free(r[0], r[1]); e != api.ErrArg {
				t.Errorf("%s: Free(%d, %d): error %d", s, r[0], r[1], e)
			}
		}
		holds(t, "all refused", m, s)
	}
}

// P3.2: at the last of 256 places, and behind it.
func TestLastPlaces(t *testing.T) {
	m := made(t, most)
	for _, r := range [][2]int{{255, 2}, {256, 1}, {250, 7}, {0, 257}, {1, 256}, {255, greatest}, {256, greatest}, {greatest, 256}} {
		want(t, "Mark", m.Mark(r[0], r[1]), api.ErrArg)
		want(t, "Free", m.Free(r[0], r[1]), api.ErrArg)
	}
	holds(t, "all refused", m, free(256))
	want(t, "Mark", m.Mark(255, 1), api.OK)
	want(t, "Mark", m.Mark(250, 6), api.ErrThere)
	want(t, "Mark", m.Mark(250, 5), api.OK)
	holds(t, "Mark", m, free(250)+taken(6))
	want(t, "Free", m.Free(249, 7), api.ErrNone)
	want(t, "Free", m.Free(251, 5), api.OK)
	holds(t, "Free", m, free(250)+"x"+free(5))
}

// takeOf, markOf and freeOf are what the three calls answer of a text, and the text behind them.
func takeOf(s string, run int) (int, api.Errno, string) {
	if run < 1 || run > len(s) {
		return 0, api.ErrArg, s
	}
	at := strings.Index(s, free(run))
	if at < 0 {
		return 0, api.ErrFull, s
	}
	return at, api.OK, with(s, at, run, "x")
}

// places says whether a text has all from at on, so many; neither may be so great that both together wrap round.
func places(s string, at, run int) bool {
	return at >= 0 && at < len(s) && run >= 1 && run <= len(s) && at+run <= len(s)
}

func markOf(s string, at, run int) (api.Errno, string) {
	if !places(s, at, run) {
		return api.ErrArg, s
	}
	if strings.Contains(s[at:at+run], "x") {
		return api.ErrThere, s
	}
	return api.OK, with(s, at, run, "x")
}

func freeOf(s string, at, run int) (api.Errno, string) {
	if !places(s, at, run) {
		return api.ErrArg, s
	}
	if strings.Contains(s[at:at+run], ".") {
		return api.ErrNone, s
	}
	return api.OK, with(s, at, run, ".")
}

// texts are all of n places.
func texts(n int) []string {
	l := []string{""}
	for range n {
		k := len(l)
		for _, s := range l[:k] {
			l = append(l, s+"x")
		}
		for i := range k {
			l[i] += "."
		}
	}
	return l
}

// P3.1 to P3.3: few places, in all states, asked all that may be, and more.
func TestAllStatesOfFew(t *testing.T) {
	for n := 1; n <= 6; n++ {
		for _, s := range texts(n) {
			holds(t, "a state", of(t, s), s)
			for run := -2; run <= n+2; run++ {
				m := of(t, s)
				at, f, then := takeOf(s, run)
				takes(t, m, run, at, f)
				holds(t, "Take", m, then)
				for at := -2; at <= n+2; at++ {
					m = of(t, s)
					f, then = markOf(s, at, run)
					want(t, "Mark", m.Mark(at, run), f)
					holds(t, "Mark", m, then)
					m = of(t, s)
					f, then = freeOf(s, at, run)
					want(t, "Free", m.Free(at, run), f)
					holds(t, "Free", m, then)
				}
			}
		}
	}
}

// P3.1 to P3.3: rows of calls of all kinds, of few places and of many.
func TestRowsOfCalls(t *testing.T) {
	r := rand.New(rand.NewPCG(3, 3))
	for _, n := range []int{1, 2, 7, 8, 15, 16, 63, 64, 65, 128, 255, 256} {
		m, s := made(t, n), free(n)
		for range 2000 {
			at, run := r.IntN(n+4)-2, r.IntN(min(n, 12)+3)-1
			f := api.OK
			switch r.IntN(5) {
			case 0, 1:
				at, f, s = takeOf(s, run)
				takes(t, m, run, at, f)
			case 2:
				f, s = markOf(s, at, run)
				want(t, "Mark", m.Mark(at, run), f)
			default:
				f, s = freeOf(s, at, run)
				want(t, "Free", m.Free(at, run), f)
			}
			if got := told(m, n); got != s {
				t.Fatalf("a call of a row: %s; wanted %s", got, s)
			}
		}
		holds(t, "a row of calls", m, s)
	}
}

// P3.3: no place is handed out twice, till it is given back; then it is once more.
func TestTakenOnce(t *testing.T) {
	m := made(t, most)
	for _, run := range []int{1, 3, 7, 256} {
		var got []int
		at, e := m.Take(run)
		for ; e == api.OK; at, e = m.Take(run) {
			for i := range run {
				if slices.Contains(got, at+i) {
					t.Fatalf("Take(%d): %d is taken already", run, at+i)
				}
				got = append(got, at+i)
			}
		}
		want(t, "Take", e, api.ErrFull)
		if len(got) != most/run*run || !m.Has(got...) || m.Left() != most-len(got) {
			t.Errorf("Take(%d): %d places in all", run, len(got))
		}
		want(t, "Free", m.Free(0, len(got)), api.OK)
		holds(t, "Free", m, free(most))
	}
}

// What is handed in stays as it is, its spare room too, and isn't kept.
func TestArgumentsStay(t *testing.T) {
	m := of(t, "xxxx")
	all := []int{3, 1, 2, 7, 0, 9}
	before := slices.Clone(all)
	for n := range len(all) + 1 {
		m.Has(all[:n]...)
		if !slices.Equal(all, before) {
			t.Fatal(all)
		}
	}
	clear(all)
	holds(t, "what was handed in is other now", m, "xxxx")
}

// Objects that don't have one another are independent.
func TestTwoMarks(t *testing.T) {
	m, o := made(t, 4), made(t, 4)
	takes(t, m, 3, 0, api.OK)
	holds(t, "the other one", o, "....")
	takes(t, o, 4, 0, api.OK)
	want(t, "Free", m.Free(0, 2), api.OK)
	holds(t, "the other one", o, "xxxx")
	holds(t, "this one", m, "..x.")
}
