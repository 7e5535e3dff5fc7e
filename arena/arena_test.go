package arena_test

import (
	"math"
	"math/rand/v2"
	"slices"
	"strings"
	"testing"

	"allotment/api"
	"allotment/arena"
)

const (
	most     = 1000
	greatest = math.MaxInt
	least    = math.MinInt
)

// model is what an arena is to be: a point in the text is a free segment, another sign one of the region that begins at the sign's place: 0 at 0, and on.
type model struct {
	text    string
	limit   int
	told    []bool
	refused int
}

func sign(at, n int) string { return strings.Repeat(string(rune('0'+at)), n) }
func free(n int) string     { return strings.Repeat(".", n) }

func (m *model) given() int { return len(m.text) - strings.Count(m.text, ".") }

func (m *model) regions() []arena.Region {
	var l []arena.Region
	for at := range len(m.text) {
		if n := strings.Count(m.text, sign(at, 1)); n > 0 {
			l = append(l, arena.Region{At: at, N: n})
		}
	}
	return l
}

func (m *model) refuse(l []bool) api.Errno {
	if len(m.told)+len(l) > most {
		return api.ErrFull
	}
	m.told = slices.Concat(m.told, l)
	return api.OK
}

func (m *model) reserve(n int) (int, api.Errno) {
	if n < 1 || n > len(m.text) {
		return 0, api.ErrArg
	}
	no := false
	if len(m.told) > 0 {
		no, m.told = m.told[0], m.told[1:]
	}
	at := strings.Index(m.text, free(n))
	if no || m.given()+n > m.limit || at < 0 {
		m.refused++
		return 0, api.ErrFull
	}
	m.text = m.text[:at] + sign(at, n) + m.text[at+n:]
	return at, api.OK
}

func (m *model) release(at int) api.Errno {
	if at < 0 || at >= len(m.text) || !strings.Contains(m.text, sign(at, 1)) {
		return api.ErrNone
	}
	m.text = strings.ReplaceAll(m.text, sign(at, 1), ".")
	return api.OK
}

func made(t *testing.T, segs, limit int) *arena.Arena {
	t.Helper()
	a, e := arena.New(segs, limit)
	if e != api.OK || a == nil {
		t.Fatalf("New(%d, %d): %v, error %d", segs, limit, a, e)
	}
	return a
}

func want(t *testing.T, what string, e, f api.Errno) {
	t.Helper()
	if e != f {
		t.Errorf("%s: error %d; wanted %d", what, e, f)
	}
}

func reserves(t *testing.T, a *arena.Arena, n, at int, f api.Errno) {
	t.Helper()
	if got, e := a.Reserve(n); got != at || e != f {
		t.Errorf("Reserve(%d): %d, error %d; wanted %d, error %d", n, got, e, at, f)
	}
}

// holds says that an arena tells of itself what a model does.
func holds(t *testing.T, what string, a *arena.Arena, m *model) {
	t.Helper()
	if got := a.Regions(); !slices.Equal(got, m.regions()) {
		t.Errorf("%s: %s: Regions %v", what, m.text, got)
	}
	if a.Given() != m.given() || a.Refused() != m.refused {
		t.Errorf("%s: %s: Given %d, Refused %d; wanted %d, %d", what, m.text, a.Given(), a.Refused(), m.given(), m.refused)
	}
}

// are says which regions an arena has.
func are(t *testing.T, what string, a *arena.Arena, l ...arena.Region) {
	t.Helper()
	n := 0
	for _, r := range l {
		n += r.N
	}
	if got := a.Regions(); !slices.Equal(got, l) || a.Given() != n {
		t.Errorf("%s: Regions %v, Given %d; wanted %v, %d", what, got, a.Given(), l, n)
	}
}

// P4.1
func TestNewOfNumbersThatMayNotBe(t *testing.T) {
	for _, x := range [][2]int{
		{0, 0}, {0, 1}, {0, -1}, {-1, 0}, {-1, -1}, {-4, 2}, {-64, -64},
		{65, 0}, {65, 64}, {65, 65}, {66, 1}, {128, 64}, {1 << 16, 1}, {1<<32 | 4, 4}, {greatest, 0}, {greatest, greatest}, {least, 0}, {least, least}, {least + 4, 1},
		{1, 2}, {1, -1}, {4, 5}, {4, 64}, {4, -1}, {63, 64}, {64, 65}, {64, -1}, {64, -64}, {4, 1<<32 | 2}, {4, greatest}, {64, greatest}, {4, least}, {4, least + 2}, {1, least},
	} {
		if a, e := arena.New(x[0], x[1]); a != nil || e != api.ErrArg {
			t.Errorf("New(%d, %d): %v, error %d", x[0], x[1], a, e)
		}
	}
}

// P4.1 and P4.2: all numbers of segments, with all limits; nothing is given at first, and as many can be as the limit says.
func TestNew(t *testing.T) {
	for segs := 1; segs <= api.MaxSegs; segs++ {
		for limit := range segs + 1 {
			a := made(t, segs, limit)
			are(t, "New", a)
			reserves(t, a, segs+1, 0, api.ErrArg)
			reserves(t, a, 0, 0, api.ErrArg)
			if limit < segs {
				reserves(t, a, limit+1, 0, api.ErrFull)
			}
			if limit > 0 {
				reserves(t, a, limit, 0, api.OK)
				are(t, "Reserve", a, arena.Region{N: limit})
				want(t, "Release", a.Release(0), api.OK)
			}
			are(t, "Release", a)
			for at := range limit {
				reserves(t, a, 1, at, api.OK)
			}
			reserves(t, a, 1, 0, api.ErrFull)
			if a.Given() != limit || len(a.Regions()) != limit {
				t.Errorf("of %d, limit %d: Given %d, Regions %v", segs, limit, a.Given(), a.Regions())
			}
		}
	}
}

// P4.1 and P4.2: a limit of 0 lets nothing be given, and each time counts.
func TestLimitOfNone(t *testing.T) {
	for _, segs := range []int{1, 2, 4, 63, 64} {
		a := made(t, segs, 0)
		for n := 1; n <= segs; n++ {
			reserves(t, a, n, 0, api.ErrFull)
		}
		reserves(t, a, 0, 0, api.ErrArg)
		reserves(t, a, segs+1, 0, api.ErrArg)
		want(t, "Refuse", a.Refuse(false), api.OK)
		reserves(t, a, 1, 0, api.ErrFull)
		are(t, "a limit of 0", a)
		if a.Refused() != segs+1 {
			t.Errorf("of %d: Refused %d", segs, a.Refused())
		}
		want(t, "Release", a.Release(0), api.ErrNone)
	}
}

// Of a nil Arena: ErrNil, ahead of all else, and zero.
func TestNil(t *testing.T) {
	var a *arena.Arena
	want(t, "Refuse", a.Refuse(), api.ErrNil)
	want(t, "Refuse", a.Refuse(true, false), api.ErrNil)
	want(t, "Refuse of too many", a.Refuse(make([]bool, most+1)...), api.ErrNil)
	for _, n := range []int{0, 1, 2, 64, 65, -1, greatest, least} {
		reserves(t, a, n, 0, api.ErrNil)
		want(t, "Release", a.Release(n), api.ErrNil)
	}
	are(t, "nil", a)
	if a.Refused() != 0 {
		t.Error(a.Refused())
	}
}

// An arena that New didn't make has no segments.
func TestZeroValue(t *testing.T) {
	a := &arena.Arena{}
	reserves(t, a, 0, 0, api.ErrArg)
	reserves(t, a, 1, 0, api.ErrArg)
	want(t, "Release", a.Release(0), api.ErrNone)
	want(t, "Refuse", a.Refuse(true), api.OK)
	are(t, "a zero value", a)
	if a.Refused() != 0 {
		t.Error(a.Refused())
	}
}

// P4.1: 1000 may be told, be it at once or one by one, and not one more; what is refused isn't told at all.
func TestRefuseUpToMost(t *testing.T) {
	for _, step := range []int{1, 7, 8, 10, 250, 333, 500, 999, 1000} {
		a := made(t, 1, 1)
		m := &model{text: ".", limit: 1}
		for len(m.told)+step <= most {
			m.refuse(slices.Repeat([]bool{true}, step))
			want(t, "Refuse", a.Refuse(slices.Repeat([]bool{true}, step)...), api.OK)
		}
		for n := most - len(m.told) + 1; n < most+3; n += 100 {
			want(t, "Refuse of too many", a.Refuse(make([]bool, n)...), api.ErrFull)
		}
		want(t, "Refuse of none", a.Refuse(), api.OK)
		rest := slices.Repeat([]bool{true}, most-len(m.told))
		want(t, "Refuse of what is left", a.Refuse(rest...), api.OK)
		want(t, "Refuse of none", a.Refuse([]bool{}...), api.OK)
		want(t, "Refuse of one", a.Refuse(false), api.ErrFull)
		for range most {
			reserves(t, a, 1, 0, api.ErrFull)
		}
		if a.Refused() != most {
			t.Errorf("by %d: Refused %d", step, a.Refused())
		}
		reserves(t, a, 1, 0, api.OK)
	}
}

// P4.1: what Refuse itself answers isn't counted.
func TestRefusedCountsReserveAlone(t *testing.T) {
	a := made(t, 2, 2)
	want(t, "Refuse of too many", a.Refuse(make([]bool, most+1)...), api.ErrFull)
	want(t, "Release", a.Release(0), api.ErrNone)
	reserves(t, a, 3, 0, api.ErrArg)
	reserves(t, a, 0, 0, api.ErrArg)
	reserves(t, a, 2, 0, api.OK)
	if a.Refused() != 0 {
		t.Error(a.Refused())
	}
	reserves(t, a, 1, 0, api.ErrFull)
	reserves(t, a, 2, 0, api.ErrFull)
	if a.Refused() != 2 {
		t.Error(a.Refused())
	}
}

// P4.1 and P4.2: what is told is used up by Reserve, so that more can be told then; an ErrArg uses nothing up.
func TestToldIsUsedUp(t *testing.T) {
	a := made(t, 64, 64)
	want(t, "Refuse", a.Refuse(make([]bool, most)...), api.OK)
	for i := range 3 * most {
		reserves(t, a, 0, 0, api.ErrArg)
		reserves(t, a, 65, 0, api.ErrArg)
		reserves(t, a, -1, 0, api.ErrArg)
		reserves(t, a, greatest, 0, api.ErrArg)
		reserves(t, a, least, 0, api.ErrArg)
		want(t, "Refuse", a.Refuse(true), api.ErrFull)
		want(t, "Refuse of none", a.Refuse(), api.OK)
		f := api.OK
		if i >= most {
			f = api.ErrFull
		}
		reserves(t, a, 64, 0, f)
		want(t, "Refuse of two", a.Refuse(true, true), api.ErrFull)
		want(t, "Refuse of one", a.Refuse(true), api.OK)
		if f == api.OK {
			want(t, "Release", a.Release(0), api.OK)
		}
	}
	if a.Refused() != 2*most {
		t.Error(a.Refused())
	}
}

// P4.1 and P4.2: in the order in which it was told, over several times that it was.
func TestToldInOrder(t *testing.T) {
	a := made(t, 8, 8)
	want(t, "Refuse", a.Refuse(false, true, true), api.OK)
	want(t, "Refuse", a.Refuse(), api.OK)
	want(t, "Refuse", a.Refuse(false), api.OK)
	want(t, "Refuse", a.Refuse(true, false), api.OK)
	reserves(t, a, 1, 0, api.OK)
	reserves(t, a, 1, 0, api.ErrFull)
	want(t, "Refuse", a.Refuse(true), api.OK)
	reserves(t, a, 1, 0, api.ErrFull)
	reserves(t, a, 2, 1, api.OK)
	reserves(t, a, 1, 0, api.ErrFull)
	reserves(t, a, 1, 3, api.OK)
	reserves(t, a, 1, 0, api.ErrFull)
	reserves(t, a, 4, 4, api.OK)
	are(t, "all told", a, arena.Region{At: 0, N: 1}, arena.Region{At: 1, N: 2}, arena.Region{At: 3, N: 1}, arena.Region{At: 4, N: 4})
	if a.Refused() != 4 {
		t.Error(a.Refused())
	}
}

// P4.2: what is told is used up by a Reserve that has no room, too, be it true or false.
func TestToldWithoutRoom(t *testing.T) {
	for _, no := range []bool{true, false} {
		a := made(t, 4, 3)
		reserves(t, a, 3, 0, api.OK)
		want(t, "Refuse", a.Refuse(no, no, true, false), api.OK)
		reserves(t, a, 2, 0, api.ErrFull)
		reserves(t, a, 1, 0, api.ErrFull)
		want(t, "Release", a.Release(0), api.OK)
		reserves(t, a, 1, 0, api.ErrFull)
		reserves(t, a, 1, 0, api.OK)
		reserves(t, a, 2, 1, api.OK)
		if a.Refused() != 3 {
			t.Error(a.Refused())
		}
	}
}

// P4.2: the lowest place, be the row longer than asked for, or one of several.
func TestReserveLowest(t *testing.T) {
	a := made(t, 10, 10)
	for at := range 10 {
		reserves(t, a, 1, at, api.OK)
	}
	for _, at := range []int{1, 3, 4, 6, 7, 8} {
		want(t, "Release", a.Release(at), api.OK)
	}
	reserves(t, a, 4, 0, api.ErrFull)
	reserves(t, a, 2, 3, api.OK)
	reserves(t, a, 2, 6, api.OK)
	reserves(t, a, 2, 0, api.ErrFull)
	reserves(t, a, 1, 1, api.OK)
	reserves(t, a, 1, 8, api.OK)
	reserves(t, a, 1, 0, api.ErrFull)
	if a.Given() != 10 || a.Refused() != 3 {
		t.Error(a.Given(), a.Refused())
	}
}

// P4.2: the limit holds for all regions together, and frees room by Release, though segments are left.
func TestLimit(t *testing.T) {
	a := made(t, 8, 5)
	reserves(t, a, 6, 0, api.ErrFull)
	reserves(t, a, 8, 0, api.ErrFull)
	reserves(t, a, 2, 0, api.OK)
	reserves(t, a, 4, 0, api.ErrFull)
	reserves(t, a, 3, 2, api.OK)
	reserves(t, a, 1, 0, api.ErrFull)
	want(t, "Release", a.Release(0), api.OK)
	reserves(t, a, 3, 0, api.ErrFull)
	reserves(t, a, 2, 0, api.OK)
	want(t, "Release", a.Release(2), api.OK)
	reserves(t, a, 3, 2, api.OK)
	are(t, "the limit", a, arena.Region{At: 0, N: 2}, arena.Region{At: 2, N: 3})
	if a.Refused() != 5 {
		t.Error(a.Refused())
	}
}

// P4.2: neither the middle of a region, nor its end, nor what is none; and not twice.
func TestRelease(t *testing.T) {
	a := made(t, 8, 8)
	reserves(t, a, 3, 0, api.OK)
	reserves(t, a, 2, 3, api.OK)
	for _, at := range []int{1, 2, 4, 5, 6, 7, 8, 9, 63, 64, 65, 1000, -1, -3, -8, 1 << 32, 1<<32 | 3, -1 << 32, greatest, least, least + 3} {
		if e := a.Release(at); e != api.ErrNone {
			t.Errorf("Release(%d): error %d", at, e)
		}
		are(t, "Release of none", a, arena.Region{At: 0, N: 3}, arena.Region{At: 3, N: 2})
	}
	want(t, "Release", a.Release(3), api.OK)
	want(t, "Release", a.Release(3), api.ErrNone)
	are(t, "Release", a, arena.Region{At: 0, N: 3})
	want(t, "Release", a.Release(0), api.OK)
	want(t, "Release", a.Release(0), api.ErrNone)
	are(t, "Release", a)
}

// P4.2: where a region began once, none begins, if another one holds that place now.
func TestReleaseOfAPlaceOnceGiven(t *testing.T) {
	a := made(t, 4, 4)
	for at := range 4 {
		reserves(t, a, 1, at, api.OK)
	}
	for at := range 4 {
		want(t, "Release", a.Release(at), api.OK)
	}
	reserves(t, a, 4, 0, api.OK)
	for at := 1; at < 4; at++ {
		want(t, "Release in the middle", a.Release(at), api.ErrNone)
	}
	are(t, "all", a, arena.Region{N: 4})
	want(t, "Release", a.Release(0), api.OK)
	reserves(t, a, 2, 0, api.OK)
	are(t, "another one", a, arena.Region{N: 2})
}

// P4.2 and P4.3: regions that stand next to each other are several, and each goes alone.
func TestNextToEachOther(t *testing.T) {
	for gone := range 4 {
		a := made(t, 8, 8)
		l := []arena.Region{}
		for i := range 4 {
			reserves(t, a, 2, 2*i, api.OK)
			l = append(l, arena.Region{At: 2 * i, N: 2})
		}
		are(t, "next to each other", a, l...)
		want(t, "Release", a.Release(2*gone), api.OK)
		are(t, "one is gone", a, slices.Delete(l, gone, gone+1)...)
		reserves(t, a, 3, 0, api.ErrFull)
		reserves(t, a, 1, 2*gone, api.OK)
		reserves(t, a, 1, 2*gone+1, api.OK)
		if len(a.Regions()) != 5 || a.Given() != 8 {
			t.Error(a.Regions())
		}
	}
}

// P4.2: a region as long as all, again and again.
func TestRegionOfAll(t *testing.T) {
	for _, segs := range []int{1, 2, 63, 64} {
		a := made(t, segs, segs)
		for range 3 {
			reserves(t, a, segs, 0, api.OK)
			are(t, "all", a, arena.Region{N: segs})
			reserves(t, a, segs, 0, api.ErrFull)
			reserves(t, a, 1, 0, api.ErrFull)
			want(t, "Release", a.Release(0), api.OK)
			are(t, "none", a)
		}
		reserves(t, a, 1, 0, api.OK)
		reserves(t, a, segs, 0, api.ErrFull)
	}
}

// P4.3: by their places, rising, in whatever order they were given.
func TestRegionsRise(t *testing.T) {
	a := made(t, 6, 6)
	reserves(t, a, 3, 0, api.OK)
	reserves(t, a, 2, 3, api.OK)
	reserves(t, a, 1, 5, api.OK)
	want(t, "Release", a.Release(0), api.OK)
	reserves(t, a, 1, 0, api.OK)
	reserves(t, a, 2, 1, api.OK)
	are(t, "all", a, arena.Region{At: 0, N: 1}, arena.Region{At: 1, N: 2}, arena.Region{At: 3, N: 2}, arena.Region{At: 5, N: 1})
}

// P4.3: an answer is new memory: written over, or made longer, it changes neither the arena nor another answer.
func TestRegionsAreNewMemory(t *testing.T) {
	a := made(t, 8, 8)
	reserves(t, a, 2, 0, api.OK)
	reserves(t, a, 3, 2, api.OK)
	l, o := a.Regions(), a.Regions()
	for i := range l[:cap(l)] {
		l[:cap(l)][i] = arena.Region{At: 7, N: 7}
	}
	if !slices.Equal(o, []arena.Region{{At: 0, N: 2}, {At: 2, N: 3}}) {
		t.Error(o)
	}
	are(t, "an answer is other now", a, o...)
	want(t, "Release in the middle", a.Release(7), api.ErrNone)
	want(t, "Release", a.Release(2), api.OK)
	if len(o) != 2 || o[1] != (arena.Region{At: 2, N: 3}) {
		t.Error(o)
	}
}

// The chapter's examples.
func TestExamples(t *testing.T) {
	a := made(t, 4, 3)
	reserves(t, a, 2, 0, api.OK)
	reserves(t, a, 2, 0, api.ErrFull)
	reserves(t, a, 1, 2, api.OK)
	are(t, "the examples", a, arena.Region{At: 0, N: 2}, arena.Region{At: 2, N: 1})
	if a.Refused() != 1 {
		t.Error(a.Refused())
	}
}

// turn is one call of a row: of a kind, with a number.
type turn struct{ kind, n int }

func turns(segs int) []turn {
	l := []turn{{0, 1}, {0, 2}, {0, 3}}
	for n := -1; n <= segs+1; n++ {
		l = append(l, turn{1, n}, turn{2, n})
	}
	return l
}

// plays makes one call, of an arena and of a model.
func plays(t *testing.T, a *arena.Arena, m *model, c turn) {
	t.Helper()
	switch c.kind {
	case 0:
		l := []bool{c.n&1 > 0, c.n&2 > 0}
		want(t, "Refuse", a.Refuse(l...), m.refuse(l))
	case 1:
		at, f := m.reserve(c.n)
		reserves(t, a, c.n, at, f)
	default:
		want(t, "Release", a.Release(c.n), m.release(c.n))
	}
}

// P4.1 to P4.4: of few segments, with all limits, all rows of few calls.
func TestAllRowsOfFewCalls(t *testing.T) {
	for segs := 1; segs <= 3; segs++ {
		l := turns(segs)
		for limit := range segs + 1 {
			for k := range len(l) * len(l) * len(l) * len(l) {
				a, m := made(t, segs, limit), &model{text: free(segs), limit: limit}
				for range 4 {
					plays(t, a, m, l[k%len(l)])
					k /= len(l)
				}
				holds(t, "a row of calls", a, m)
			}
			if t.Failed() {
				return
			}
		}
	}
}

// apart says that regions don't meet, rise, are within the segments, and within the limit.
func apart(t *testing.T, a *arena.Arena, segs, limit int) {
	t.Helper()
	end, given := 0, 0
	for _, r := range a.Regions() {
		if r.At < end || r.N < 1 {
			t.Errorf("%v meets what is ahead of it", r)
		}
		end = r.At + r.N
		given += r.N
	}
	if end > segs || given > limit || given != a.Given() {
		t.Errorf("of %d, limit %d: %v, Given %d", segs, limit, a.Regions(), a.Given())
	}
}

// P4.1 to P4.4: long rows of calls of all kinds, of few segments and of many.
func TestRowsOfCalls(t *testing.T) {
	r := rand.New(rand.NewPCG(4, 4))
	for _, segs := range []int{1, 2, 5, 8, 16, 31, 33, 63, 64} {
		for _, limit := range []int{segs, segs - 1, segs / 2, 1} {
			if limit < 0 || limit > segs {
				continue
			}
			a, m := made(t, segs, limit), &model{text: free(segs), limit: limit}
			for range 1500 {
				c := turn{1 + r.IntN(2), r.IntN(segs+4) - 2}
				if r.IntN(10) == 0 {
					c = turn{0, r.IntN(4)}
				} else if c.kind == 1 && r.IntN(2) == 0 {
					c.n = 1 + r.IntN(4)
				}
				plays(t, a, m, c)
				holds(t, "a call of a row", a, m)
				apart(t, a, segs, limit)
				if t.Failed() {
					return
				}
			}
		}
	}
}

// P4.4: the marks' own calls aren't the arena's: by these, regions could meet.
func TestMarksAreItsOwn(t *testing.T) {
	var a any = made(t, 4, 4)
	if _, ok := a.(interface {
		Take(run int) (int, api.Errno)
	}); ok {
		t.Error("Take")
	}
	if _, ok := a.(interface{ Mark(at, run int) api.Errno }); ok {
		t.Error("Mark")
	}
	if _, ok := a.(interface{ Free(at, run int) api.Errno }); ok {
		t.Error("Free")
	}
}

// What is handed in stays as it is, its spare room too, and isn't kept.
func TestArgumentsStay(t *testing.T) {
	a := made(t, 8, 8)
	all := []bool{false, true, false, true, false, true, true, true}
	before := slices.Clone(all)
	want(t, "Refuse", a.Refuse(all[:4]...), api.OK)
	want(t, "Refuse", a.Refuse(false, false), api.OK)
	if !slices.Equal(all, before) {
		t.Fatal(all)
	}
	for i := range all {
		all[i] = !all[i]
	}
	for i, f := range []api.Errno{api.OK, api.ErrFull, api.OK, api.ErrFull, api.OK, api.OK} {
		if _, e := a.Reserve(1); e != f {
			t.Errorf("Reserve, %d: error %d; wanted %d", i, e, f)
		}
	}
}

// Objects that don't have one another are independent.
func TestTwoArenas(t *testing.T) {
	a, o := made(t, 4, 4), made(t, 4, 4)
	want(t, "Refuse", a.Refuse(false, true), api.OK)
	reserves(t, o, 1, 0, api.OK)
	reserves(t, o, 1, 1, api.OK)
	reserves(t, a, 3, 0, api.OK)
	reserves(t, a, 1, 0, api.ErrFull)
	want(t, "Release", a.Release(0), api.OK)
	are(t, "the other one", o, arena.Region{At: 0, N: 1}, arena.Region{At: 1, N: 1})
	are(t, "this one", a)
	if o.Refused() != 0 || a.Refused() != 1 {
		t.Error(o.Refused(), a.Refused())
	}
}
