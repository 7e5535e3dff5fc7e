package class_test

import (
	"math"
	"slices"
	"testing"

	"allotment/api"
	"allotment/class"
)

// row is what a class is to be.
type row struct {
	size           uint64
	slices, blocks int
}

// rows are all classes, from 0 on, as the chapter lists them.
func rows() []row {
	return []row{
		{16, 1, 64}, {32, 1, 32}, {48, 1, 21}, {64, 1, 16}, {96, 1, 10}, {128, 1, 8}, {192, 1, 5}, {256, 1, 4},
		{384, 2, 5}, {512, 2, 4},
		{768, 4, 5}, {1024, 4, 4},
	}
}

func sizes() []uint64 {
	var l []uint64
	for _, r := range rows() {
		l = append(l, r.size)
	}
	return l
}

// noClasses are numbers that are no class.
func noClasses() []int {
	return []int{-1, -2, -12, 12, 13, 16, 24, 64, 255, 256, 1024, 1 << 32, 1<<32 | 3, -1 << 32, -1<<32 | 3, math.MaxInt, math.MaxInt - 3, math.MinInt, math.MinInt + 3}
}

func aligns() []uint64 { return []uint64{1, 2, 4, 8, 16, 32, 64, 128, 256, 512, 1024} }

// tooMuch are numbers above MaxSize.
func tooMuch() []uint64 {
	return []uint64{api.MaxSize + 1, api.MaxSize + 2, api.MaxSize + api.Seg, 2 * api.MaxSize, 1<<32 + 16, 1 << 40, 1<<63 - 1, 1 << 63, 1<<63 + 16, math.MaxUint64 - api.Seg, math.MaxUint64 - 1, math.MaxUint64}
}

// plan is what For is to answer, of numbers that may be; it looks for slices and segments one by one.
func plan(n, align uint64) class.Plan {
	n = max(n, 1)
	for c, r := range rows() {
		if r.size >= n && r.size%align == 0 {
			return class.Plan{Class: c, Slices: r.slices, Usable: r.size}
		}
	}
	for i := range 15 {
		if usable := uint64(i+1) * 1024; usable >= n {
			return class.Plan{Class: -1, Slices: i + 1, Usable: usable}
		}
	}
	segs := 1
	for uint64(segs)*16384 < n {
		segs++
	}
	return class.Plan{Class: -1, Segs: segs, Usable: uint64(segs) * 16384}
}

func plans(t *testing.T, n, align uint64, p class.Plan, f api.Errno) {
	t.Helper()
	if got, e := class.For(n, align); got != p || e != f {
		t.Errorf("For(%d, %d): %+v, error %d; wanted %+v, error %d", n, align, got, e, p, f)
	}
}

func of(t *testing.T, n uint64, c int, f api.Errno) {
	t.Helper()
	if got, e := class.Of(n); got != c || e != f {
		t.Errorf("Of(%d): %d, error %d; wanted %d, error %d", n, got, e, c, f)
	}
}

// are says that a class is what a row says, with an error or without.
func are(t *testing.T, c int, r row, f api.Errno) {
	t.Helper()
	if size, e := class.Size(c); size != r.size || e != f {
		t.Errorf("Size(%d): %d, error %d; wanted %d, error %d", c, size, e, r.size, f)
	}
	if n, e := class.Slices(c); n != r.slices || e != f {
		t.Errorf("Slices(%d): %d, error %d; wanted %d, error %d", c, n, e, r.slices, f)
	}
	if n, e := class.Blocks(c); n != r.blocks || e != f {
		t.Errorf("Blocks(%d): %d, error %d; wanted %d, error %d", c, n, e, r.blocks, f)
	}
}

func all(t *testing.T, c []int, want []uint64) {
	t.Helper()
	if got := class.All(c...); !slices.Equal(got, want) {
		t.Errorf("All(%v): %v; wanted %v", c, got, want)
	}
}

// P5.1: all classes, 0 and 11 among them.
func TestClasses(t *testing.T) {
	if len(rows()) != api.Classes {
		t.Fatal(len(rows()))
	}
	for c, r := range rows() {
		are(t, c, r, api.OK)
	}
}

// P5.1: as many blocks as fit into a page, and not one more.
func TestBlocksFit(t *testing.T) {
	for c := range api.Classes {
		size, e := class.Size(c)
		n, f := class.Slices(c)
		blocks, g := class.Blocks(c)
		page := uint64(n) * api.Slice
		if e != api.OK || f != api.OK || g != api.OK || uint64(blocks)*size > page || uint64(blocks+1)*size <= page {
			t.Errorf("class %d: %d blocks of %d bytes in %d bytes, errors %d, %d, %d", c, blocks, size, page, e, f, g)
		}
	}
}

// P5.1
func TestNoClass(t *testing.T) {
	for _, c := range noClasses() {
		are(t, c, row{}, api.ErrArg)
	}
}

// P5.1: at each class's size, one less, and one more.
func TestOfWhereClassesChange(t *testing.T) {
	of(t, 0, 0, api.OK)
	of(t, 1, 0, api.OK)
	for c, size := range sizes() {
		of(t, size-1, c, api.OK)
		of(t, size, c, api.OK)
		if c+1 < api.Classes {
			of(t, size+1, c+1, api.OK)
		}
	}
	of(t, api.MaxSmall, 11, api.OK)
	of(t, api.MaxSmall+1, 0, api.ErrArg)
}

// P5.1: all numbers that have a class, and many that have none.
func TestOf(t *testing.T) {
	c := 0
	for n := range uint64(api.MaxSmall + 1) {
		if n > rows()[c].size {
			c++
		}
		of(t, n, c, api.OK)
	}
	for n := uint64(api.MaxSmall + 1); n <= 3*api.MaxLarge; n++ {
		of(t, n, 0, api.ErrArg)
	}
	of(t, api.MaxSize, 0, api.ErrArg)
	for _, n := range tooMuch() {
		of(t, n, 0, api.ErrArg)
	}
}

// P5.1: a class is the class of its own size.
func TestOfSize(t *testing.T) {
	for c := range api.Classes {
		size, e := class.Size(c)
		if e != api.OK {
			t.Errorf("Size(%d): error %d", c, e)
		}
		of(t, size, c, api.OK)
	}
}

// P5.1: of none handed in those of all; nil and empty are one.
func TestAllOfNone(t *testing.T) {
	if got := class.All(); !slices.Equal(got, sizes()) {
		t.Error(got)
	}
	all(t, nil, sizes())
	all(t, []int{}, sizes())
	all(t, make([]int, 0, 4), sizes())
}

// P5.1: in the order in which they are handed in, as often as they are.
func TestAllInOrder(t *testing.T) {
	for c, size := range sizes() {
		all(t, []int{c}, []uint64{size})
		all(t, []int{c, c}, []uint64{size, size})
		for d, other := range sizes() {
			all(t, []int{c, d}, []uint64{size, other})
			all(t, []int{c, d, c}, []uint64{size, other, size})
		}
	}
	all(t, []int{0, 1, 2, 3, 4, 5, 6, 7, 8, 9, 10, 11}, sizes())
	back := sizes()
	slices.Reverse(back)
	all(t, []int{11, 10, 9, 8, 7, 6, 5, 4, 3, 2, 1, 0}, back)
	all(t, slices.Repeat([]int{11, 0}, 5000), slices.Repeat([]uint64{1024, 16}, 5000))
}

// P5.1: numbers that are no class are left out; if all of them are, that is none, and not all.
func TestAllOfNoClasses(t *testing.T) {
	all(t, noClasses(), nil)
	for _, no := range noClasses() {
		all(t, []int{no}, nil)
		all(t, []int{no, no}, nil)
		all(t, []int{no, 0}, []uint64{16})
		all(t, []int{0, no}, []uint64{16})
		all(t, []int{11, no, 3, no, 3}, []uint64{1024, 64, 64})
	}
}

// P5.1: an answer is new memory, its spare room too: written over, it changes no other answer.
func TestAllIsNewMemory(t *testing.T) {
	for _, c := range [][]int{nil, {0, 11, 5}, {0, 1, 2, 3, 4, 5, 6, 7, 8, 9, 10, 11}} {
		l, o := class.All(c...), class.All(c...)
		before := slices.Clone(o)
		for i := range l[:cap(l)] {
			l[:cap(l)][i] = 7
		}
		if !slices.Equal(o, before) {
			t.Error(o)
		}
		all(t, c, before)
		all(t, nil, sizes())
		for i, r := range rows() {
			are(t, i, r, api.OK)
		}
		of(t, 8, 0, api.OK)
		plans(t, 8, 1, class.Plan{Slices: 1, Usable: 16}, api.OK)
	}
}

// What is handed in stays as it is, its spare room too.
func TestArgumentsStay(t *testing.T) {
	l := []int{3, -1, 11, 12, 77, 78}
	before := slices.Clone(l)
	all(t, l[:4], []uint64{64, 1024})
	if !slices.Equal(l, before) {
		t.Error(l)
	}
}

// The examples of the chapter and of the document.
func TestExamples(t *testing.T) {
	plans(t, 17, 1, class.Plan{Class: 1, Slices: 1, Usable: 32}, api.OK)
	plans(t, 17, 64, class.Plan{Class: 3, Slices: 1, Usable: 64}, api.OK)
	plans(t, 1025, 1, class.Plan{Class: -1, Slices: 2, Usable: 2048}, api.OK)
	plans(t, 20000, 1, class.Plan{Class: -1, Segs: 2, Usable: 32768}, api.OK)
}

// P5.2: at 0, MaxSmall, MaxLarge and MaxSize, and one more than each.
func TestForAtTheEdges(t *testing.T) {
	for _, align := range []uint64{1, 16} {
		plans(t, 0, align, class.Plan{Slices: 1, Usable: 16}, api.OK)
		plans(t, 1, align, class.Plan{Slices: 1, Usable: 16}, api.OK)
		plans(t, 16, align, class.Plan{Slices: 1, Usable: 16}, api.OK)
		plans(t, 17, align, class.Plan{Class: 1, Slices: 1, Usable: 32}, api.OK)
	}
	for _, align := range aligns() {
		plans(t, 1023, align, class.Plan{Class: 11, Slices: 4, Usable: 1024}, api.OK)
		plans(t, 1024, align, class.Plan{Class: 11, Slices: 4, Usable: 1024}, api.OK)
		plans(t, 1025, align, class.Plan{Class: -1, Slices: 2, Usable: 2048}, api.OK)
		plans(t, 15359, align, class.Plan{Class: -1, Slices: 15, Usable: 15360}, api.OK)
		plans(t, 15360, align, class.Plan{Class: -1, Slices: 15, Usable: 15360}, api.OK)
		plans(t, 15361, align, class.Plan{Class: -1, Segs: 1, Usable: 16384}, api.OK)
		plans(t, 16384, align, class.Plan{Class: -1, Segs: 1, Usable: 16384}, api.OK)
		plans(t, 16385, align, class.Plan{Class: -1, Segs: 2, Usable: 32768}, api.OK)
		plans(t, 1048575, align, class.Plan{Class: -1, Segs: 64, Usable: 1048576}, api.OK)
		plans(t, 1048576, align, class.Plan{Class: -1, Segs: 64, Usable: 1048576}, api.OK)
		plans(t, 1048577, align, class.Plan{}, api.ErrArg)
	}
}

// P5.2: at each class's size, one less, and one more, where the pages change, too.
func TestForWhereClassesChange(t *testing.T) {
	for c, r := range rows() {
		p := class.Plan{Class: c, Slices: r.slices, Usable: r.size}
		plans(t, r.size-1, 1, p, api.OK)
		plans(t, r.size, 1, p, api.OK)
		if c+1 < api.Classes {
			next := rows()[c+1]
			plans(t, r.size+1, 1, class.Plan{Class: c + 1, Slices: next.slices, Usable: next.size}, api.OK)
		}
	}
}

// P5.2: classes whose size is no multiple of the alignment are gone past.
func TestForAligned(t *testing.T) {
	for _, x := range []struct {
		n, align uint64
		c        int
	}{
		{0, 32, 1}, {0, 64, 3}, {0, 1024, 11}, {1, 1024, 11}, {1, 512, 9}, {1, 256, 7}, {1, 128, 5},
		{33, 16, 2}, {33, 32, 3}, {48, 32, 3}, {65, 32, 4}, {65, 64, 5}, {96, 64, 5}, {97, 128, 5},
		{129, 64, 6}, {129, 128, 7}, {192, 128, 7}, {257, 128, 8}, {257, 256, 9}, {384, 256, 9},
		{513, 256, 10}, {513, 512, 11}, {768, 256, 10}, {768, 512, 11}, {769, 1, 11}, {1024, 1024, 11},
	} {
		r := rows()[x.c]
		plans(t, x.n, x.align, class.Plan{Class: x.c, Slices: r.slices, Usable: r.size}, api.OK)
	}
}

// P5.2: all numbers that may be, with all alignments that may be.
func TestFor(t *testing.T) {
	for n := range uint64(2*api.Seg + 2) {
		for _, align := range aligns() {
			plans(t, n, align, plan(n, align), api.OK)
		}
		if t.Failed() {
			return
		}
	}
	for n := uint64(2*api.Seg + 2); n <= api.MaxSize; n++ {
		plans(t, n, 1, plan(n, 1), api.OK)
		if t.Failed() {
			return
		}
	}
	for segs := uint64(1); segs <= api.MaxSegs; segs++ {
		for _, align := range aligns() {
			for n := segs*api.Seg - 1; n <= min(segs*api.Seg+1, api.MaxSize); n++ {
				plans(t, n, align, plan(n, align), api.OK)
			}
		}
	}
}

// P5.2: neither 0, nor what is no power of two, nor a power above MaxAlign.
func TestForAlignedAsMayNotBe(t *testing.T) {
	wrong := []uint64{0, math.MaxUint64, math.MaxUint64 - 1, 1<<32 + 1, 1<<32 + 16, 1<<63 + 1, 3 << 62}
	for a := range uint64(2050) {
		if !slices.Contains(aligns(), a) {
			wrong = append(wrong, a)
		}
	}
	for i := 11; i < 64; i++ {
		wrong = append(wrong, 1<<i)
	}
	for _, align := range wrong {
		for _, n := range []uint64{0, 1, 16, 17, 1024, 1025, 15360, 15361, api.MaxSize, api.MaxSize + 1, math.MaxUint64} {
			plans(t, n, align, class.Plan{}, api.ErrArg)
		}
	}
}

// P5.2
func TestForTooMuch(t *testing.T) {
	for _, n := range tooMuch() {
		for _, align := range aligns() {
			plans(t, n, align, class.Plan{}, api.ErrArg)
		}
	}
}

// P5.3: a plan's bytes are those of what it has, as few as can be, and no less than were asked for.
func TestEnough(t *testing.T) {
	for n := uint64(0); n <= api.MaxSize; n += 1 + n/64 {
		for _, align := range aligns() {
			p, e := class.For(n, align)
			if e != api.OK || p.Usable < n || p.Usable == 0 || p.Usable%align != 0 {
				t.Errorf("For(%d, %d): %+v, error %d", n, align, p, e)
			}
			if p.Class >= 0 {
				size, e := class.Size(p.Class)
				count, f := class.Slices(p.Class)
				if size != p.Usable || count != p.Slices || p.Segs != 0 || e != api.OK || f != api.OK {
					t.Errorf("For(%d, %d): %+v, of class %d: %d bytes in %d slices, errors %d, %d", n, align, p, p.Class, size, count, e, f)
				}
				continue
			}
			if p.Class != -1 || p.Slices*p.Segs != 0 || p.Usable != uint64(p.Slices*api.Slice+p.Segs*api.Seg) {
				t.Errorf("For(%d, %d): %+v", n, align, p)
			}
		}
	}
}

// P5.3
func TestOfHasEnough(t *testing.T) {
	for n := range uint64(api.MaxSmall + 1) {
		c, e := class.Of(n)
		size, f := class.Size(c)
		if e != api.OK || f != api.OK || size < n {
			t.Errorf("Of(%d): class %d of %d bytes, errors %d, %d", n, c, size, e, f)
		}
	}
}

// P5.3: multiples of 16, and rising, so that the first class that will do is the least one.
func TestSizes(t *testing.T) {
	last := uint64(0)
	for c, size := range class.All() {
		if size%16 != 0 || size <= last {
			t.Errorf("class %d: %d bytes, behind %d", c, size, last)
		}
		last = size
	}
	if last != api.MaxSmall {
		t.Error(last)
	}
}
