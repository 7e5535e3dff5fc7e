package geo_test

import (
	"math"
	"math/big"
	"math/rand/v2"
	"slices"
	"testing"

	"allotment/api"
	"allotment/geo"
)

const (
	size     = 1048576 // what 64 segments of 16 slices of 1024 bytes have
	greatest = ^uint64(0)
)

func at(t *testing.T, addr uint64, p geo.Place, f api.Errno) {
	t.Helper()
	if got, e := geo.At(addr); got != p || e != f {
		t.Errorf("At(%d): %+v, error %d; wanted %+v, error %d", addr, got, e, p, f)
	}
}

func addrs(t *testing.T, p geo.Place, addr uint64, f api.Errno) {
	t.Helper()
	if got, e := geo.Addr(p); got != addr || e != f {
		t.Errorf("Addr(%+v): %d, error %d; wanted %d, error %d", p, got, e, addr, f)
	}
}

func block(t *testing.T, r geo.Run, i int, addr uint64, f api.Errno) {
	t.Helper()
	if got, e := r.Block(i); got != addr || e != f {
		t.Errorf("%+v: Block(%d): %d, error %d; wanted %d, error %d", r, i, got, e, addr, f)
	}
}

func index(t *testing.T, r geo.Run, addr uint64, i int, f api.Errno) {
	t.Helper()
	if got, e := r.Index(addr); got != i || e != f {
		t.Errorf("%+v: Index(%d): %d, error %d; wanted %d, error %d", r, addr, got, e, i, f)
	}
}

func in(t *testing.T, r geo.Run, l []uint64, want bool) {
	t.Helper()
	if r.In(l...) != want {
		t.Errorf("%+v: In(%v): %v", r, l, !want)
	}
}

func ends(t *testing.T, r geo.Run, end uint64) {
	t.Helper()
	if got := r.End(); got != end {
		t.Errorf("%+v: End: %d; wanted %d", r, got, end)
	}
}

func meet(t *testing.T, want bool, l ...geo.Run) {
	t.Helper()
	if geo.Meet(l...) != want {
		t.Errorf("Meet of %d, %+v: %v", len(l), l[:min(len(l), 8)], !want)
	}
}

// noIndexes are numbers that are none of n that are counted from 0 on, and what would be one, if it were cut off.
func noIndexes(n int) []int {
	return []int{-1, -2, -n, -n - 1, n, n + 1, 2*n + 1, 1 << 16, 1<<16 | 1, 1 << 32, 1<<32 | 1, -1 << 32, -1<<32 | 1, math.MaxInt, math.MaxInt - 1, math.MinInt, math.MinInt + 1}
}

// beyond are addresses that aren't below MaxSize.
func beyond() []uint64 {
	return []uint64{size, size + 1, size + 1023, size + 1024, size + 17500, 2*size - 1, 2 * size, 1 << 32, 1<<32 + 17500, 1 << 40, 1<<63 - 1, 1 << 63, 1<<63 + 1, greatest - 1024, greatest - 1, greatest}
}

// mayBe says by numbers that have no end whether a run may be.
func mayBe(r geo.Run) bool {
	number := func(x uint64) *big.Int { return new(big.Int).SetUint64(x) }
	from, bytes, n, most := number(r.From), number(r.Size), big.NewInt(int64(r.N)), number(size)
	end := new(big.Int).Mul(n, bytes)
	end.Add(end, from)
	return bytes.Sign() > 0 && bytes.Cmp(most) <= 0 && n.Sign() >= 0 && n.Cmp(big.NewInt(1024)) <= 0 && from.Cmp(most) <= 0 && end.Cmp(most) <= 0
}

// edges are runs that may be, at the edges of what may be.
func edges() []geo.Run {
	return []geo.Run{
		{From: 0, Size: 1, N: 0}, {From: 0, Size: 1, N: 1}, {From: 0, Size: 1, N: 1024}, {From: 1, Size: 1, N: 1023},
		{From: 0, Size: size, N: 0}, {From: 0, Size: size, N: 1}, {From: size, Size: size, N: 0}, {From: size, Size: 1, N: 0},
		{From: size - 1, Size: 1, N: 1}, {From: size - 1, Size: 1, N: 0}, {From: 1, Size: size - 1, N: 1}, {From: 1, Size: size, N: 0},
		{From: 0, Size: 1024, N: 1024}, {From: 1024, Size: 1024, N: 1023}, {From: 1023, Size: 1023, N: 1024}, {From: 1024, Size: 1023, N: 1024},
		{From: size - 1024, Size: 1, N: 1024}, {From: size - 1024, Size: 1024, N: 1}, {From: size - 1024, Size: 16, N: 64},
		{From: 0, Size: size / 2, N: 2}, {From: 1, Size: 349525, N: 3}, {From: 0, Size: 524287, N: 2},
		{From: 1024, Size: 16, N: 64}, {From: 1024, Size: 256, N: 4}, {From: 7, Size: 3, N: 5}, {From: 17408, Size: 48, N: 21},
	}
}

// wrong are runs that may not be, each by one edge or more.
func wrong() []geo.Run {
	return []geo.Run{
		// no size that may be
		{}, {N: 1}, {From: 1024, N: 4}, {From: size, N: 0}, {Size: size + 1, N: 0}, {Size: size + 1, N: 1}, {Size: size * 2, N: 0}, {From: 5, Size: greatest, N: 0}, {Size: 1 << 32, N: 0}, {Size: 1<<32 + 16, N: 4},
		// no N that may be
		{Size: 16, N: -1}, {From: 1024, Size: 16, N: -1}, {From: 1024, Size: 1, N: -1024}, {From: 16, Size: 16, N: -2}, {From: size, Size: size, N: -1}, {Size: 1, N: 1025}, {From: 1024, Size: 16, N: 1025}, {Size: 16, N: 2048}, {Size: 16, N: 1 << 16}, {Size: 16, N: 1 << 32}, {Size: 16, N: 1<<32 | 4}, {Size: 1, N: math.MaxInt}, {Size: 2, N: math.MinInt}, {Size: 16, N: math.MinInt}, {Size: 16, N: math.MinInt + 4}, {Size: 16, N: -1<<32 | 4},
		// no beginning that may be
		{From: size + 1, Size: 1, N: 0}, {From: size + 1, Size: 1, N: 1}, {From: size + 1024, Size: 16, N: 0}, {From: greatest, Size: 1, N: 0}, {From: greatest, Size: 1, N: 1}, {From: greatest, Size: 1, N: 2}, {From: greatest - 15, Size: 16, N: 1}, {From: greatest - 15, Size: 16, N: 64}, {From: greatest - 1023, Size: 1024, N: 2}, {From: greatest - size + 1, Size: size, N: 1}, {From: greatest - size + 1, Size: 1024, N: 1024}, {From: 1 << 63, Size: 16, N: 4}, {From: 1 << 32, Size: 16, N: 4},
		// no end that may be
		{From: size, Size: 1, N: 1}, {From: size - 1, Size: 2, N: 1}, {From: size - 1, Size: 1, N: 2}, {From: 1, Size: size, N: 1}, {Size: size, N: 2}, {Size: size, N: 1024}, {From: size, Size: size, N: 1024}, {From: 1, Size: 1024, N: 1024}, {From: 1025, Size: 1024, N: 1023}, {Size: 1025, N: 1024}, {From: 1025, Size: 1023, N: 1024}, {From: size - 1023, Size: 1, N: 1024}, {From: 2, Size: 349525, N: 3}, {Size: 524289, N: 2},
		// bytes that are small again, once they wrap round
		{Size: 1 << 63, N: 2}, {Size: 1 << 62, N: 4}, {Size: 1 << 54, N: 1024}, {From: 1024, Size: 1 << 54, N: 1024}, {From: 1024, Size: 1<<54 + 1, N: 1024}, {Size: 1<<63 + 8, N: 2}, {From: 2048, Size: greatest - 15, N: 1}, {From: 2048, Size: greatest, N: 1024}, {From: 1 << 63, Size: 1 << 63, N: 1}, {From: greatest, Size: greatest, N: 1024}, {From: greatest, Size: greatest, N: -1}, {From: 64, Size: greatest, N: -1}, {Size: greatest, N: math.MinInt},
	}
}

// The examples of the chapter.
func TestExamples(t *testing.T) {
	at(t, 17500, geo.Place{Seg: 1, Slice: 1, Off: 92}, api.OK)
	r := geo.Run{From: 1024, Size: 16, N: 64}
	index(t, r, 1040, 1, api.OK)
	index(t, r, 1041, 0, api.ErrNone)
}

// P6.1 and P6.3: all addresses, counted byte by byte, slice by slice, segment by segment, and back again.
func TestAllPlaces(t *testing.T) {
	addr := uint64(0)
	for seg := range 64 {
		for slice := range 16 {
			for off := range uint64(1024) {
				p := geo.Place{Seg: seg, Slice: slice, Off: off}
				at(t, addr, p, api.OK)
				addrs(t, p, addr, api.OK)
				addr++
			}
			if t.Failed() {
				return
			}
		}
	}
	if addr != api.MaxSize {
		t.Error(addr)
	}
}

// P6.1: address 0, MaxSize - 1, and where slices and segments change; segment 0 and 63, slice 0 and 15, an Off of 0 and of 1023.
func TestPlacesAtTheEdges(t *testing.T) {
	for _, x := range []struct {
		addr uint64
		p    geo.Place
	}{
		{0, geo.Place{}},
		{1, geo.Place{Off: 1}},
		{1023, geo.Place{Off: 1023}},
		{1024, geo.Place{Slice: 1}},
		{15359, geo.Place{Slice: 14, Off: 1023}},
		{15360, geo.Place{Slice: 15}},
		{16383, geo.Place{Slice: 15, Off: 1023}},
		{16384, geo.Place{Seg: 1}},
		{17408, geo.Place{Seg: 1, Slice: 1}},
		{1032191, geo.Place{Seg: 62, Slice: 15, Off: 1023}},
		{1032192, geo.Place{Seg: 63}},
		{1033215, geo.Place{Seg: 63, Off: 1023}},
		{1047552, geo.Place{Seg: 63, Slice: 15}},
		{1048575, geo.Place{Seg: 63, Slice: 15, Off: 1023}},
	} {
		at(t, x.addr, x.p, api.OK)
		addrs(t, x.p, x.addr, api.OK)
	}
}

// P6.1: MaxSize, and above.
func TestAtBeyond(t *testing.T) {
	for _, addr := range beyond() {
		at(t, addr, geo.Place{}, api.ErrRange)
	}
}

// P6.1: what is no segment, no slice, or an Off beyond a slice, is no place, even where all together would be an address.
func TestAddrOfNoPlace(t *testing.T) {
	offs := []uint64{1024, 1025, 2048, 16383, 16384, size - 1, size, 1 << 32, 1<<32 + 5, 1 << 63, greatest - 16383, greatest - 1023, greatest}
	for _, seg := range []int{0, 1, 31, 62, 63} {
		for _, slice := range []int{0, 1, 7, 14, 15} {
			for _, off := range offs {
				addrs(t, geo.Place{Seg: seg, Slice: slice, Off: off}, 0, api.ErrRange)
			}
			for _, off := range []uint64{0, 92, 1023} {
				for _, no := range noIndexes(64) {
					addrs(t, geo.Place{Seg: no, Slice: slice, Off: off}, 0, api.ErrRange)
				}
				for _, no := range noIndexes(16) {
					addrs(t, geo.Place{Seg: seg, Slice: no, Off: off}, 0, api.ErrRange)
				}
			}
		}
	}
	for _, seg := range noIndexes(64) {
		for _, slice := range noIndexes(16) {
			for _, off := range append(offs, 0) {
				addrs(t, geo.Place{Seg: seg, Slice: slice, Off: off}, 0, api.ErrRange)
			}
		}
	}
}

// owners says of each address up to most in which block of a run it is, -1 for none, and whether it is the block's first one; counted byte by byte.
func owners(r geo.Run, most int) (block []int, first []bool) {
	block, first = make([]int, most), make([]bool, most)
	for addr := range block {
		block[addr] = -1
	}
	addr := r.From
	for i := range r.N {
		for b := range r.Size {
			block[addr], first[addr] = i, b == 0
			addr++
		}
	}
	return block, first
}

// checkAll holds all that a small run tells of the addresses up to most against blocks that are counted byte by byte.
func checkAll(t *testing.T, r geo.Run, most int) {
	t.Helper()
	owner, first := owners(r, most)
	for addr, i := range owner {
		a := uint64(addr)
		in(t, r, []uint64{a}, i >= 0)
		switch {
		case i < 0:
			index(t, r, a, 0, api.ErrRange)
		case !first[addr]:
			index(t, r, a, 0, api.ErrNone)
		default:
			index(t, r, a, i, api.OK)
			block(t, r, i, a, api.OK)
		}
	}
	for _, i := range noIndexes(r.N) {
		block(t, r, i, 0, api.ErrRange)
	}
	end := r.From
	for addr, i := range owner {
		if i >= 0 {
			end = uint64(addr) + 1
		}
	}
	ends(t, r, end)
}

// P6.2 and P6.3: all small runs, byte by byte; runs of no blocks among them.
func TestSmallRuns(t *testing.T) {
	for from := range uint64(7) {
		for bytes := uint64(1); bytes <= 6; bytes++ {
			for n := range 7 {
				checkAll(t, geo.Run{From: from, Size: bytes, N: n}, 50)
			}
		}
	}
}

// P6.2 and P6.3: runs as pages have them, byte by byte.
func TestRunsOfPages(t *testing.T) {
	for _, x := range []struct{ size, bytes uint64 }{{16, 1024}, {32, 1024}, {48, 1024}, {192, 1024}, {384, 2048}, {512, 2048}, {768, 4096}, {1024, 4096}, {15360, 15360}} {
		for _, from := range []uint64{0, 1024, 17408} {
			checkAll(t, geo.Run{From: from, Size: x.size, N: int(x.bytes / x.size)}, 40000)
		}
	}
}

// P6.2: a run at the edges: each block's first byte, its second and its last one, what is ahead of the run, and behind it.
func TestRunsAtTheEdges(t *testing.T) {
	for _, r := range edges() {
		if !mayBe(r) {
			t.Fatalf("%+v", r)
		}
		end := r.From
		for i := range r.N {
			first, last := end, end+r.Size-1
			block(t, r, i, first, api.OK)
			index(t, r, first, i, api.OK)
			if r.Size > 1 {
				index(t, r, first+1, 0, api.ErrNone)
				index(t, r, last, 0, api.ErrNone)
			}
			in(t, r, []uint64{first}, true)
			in(t, r, []uint64{last}, true)
			in(t, r, []uint64{r.From, first, last}, true)
			end = last + 1
		}
		ends(t, r, end)
		in(t, r, nil, true)
		in(t, r, []uint64{}, true)
		for _, addr := range append(beyond(), end, end+1, end+r.Size, r.From-1, r.From-r.Size) {
			if addr >= r.From && addr < end {
				continue // one of another block, of runs that have as many addresses as there are
			}
			index(t, r, addr, 0, api.ErrRange)
			in(t, r, []uint64{addr}, false)
			in(t, r, []uint64{r.From, addr}, false)
			in(t, r, []uint64{addr, r.From}, false)
		}
		for _, i := range noIndexes(r.N) {
			block(t, r, i, 0, api.ErrRange)
		}
	}
}

// P6.2: one that isn't in a block, wherever it stands.
func TestInOfMany(t *testing.T) {
	r := geo.Run{From: 1024, Size: 48, N: 21}
	var l []uint64
	for addr := r.From; addr < 2032; addr++ {
		l = append(l, addr)
	}
	in(t, r, l, true)
	in(t, r, slices.Repeat([]uint64{1024, 2031}, 1000), true)
	for _, no := range []uint64{0, 1023, 2032, 2033, 2047, 2048, greatest} {
		for i := range l {
			was := l[i]
			l[i] = no
			in(t, r, l, false)
			l[i] = was
		}
	}
}

// P6.2: a run that may not be tells nothing: ErrArg, ahead of what else is wrong, false, of none, too, and 0.
func TestRunsThatMayNotBe(t *testing.T) {
	for _, r := range wrong() {
		if mayBe(r) {
			t.Fatalf("%+v", r)
		}
		for _, i := range append(noIndexes(r.N), 0, 1, 3) {
			block(t, r, i, 0, api.ErrArg)
		}
		for _, addr := range append(beyond(), r.From, r.From+1, r.From+r.Size, 0, 1, 16, 1024, 1040, size-1) {
			index(t, r, addr, 0, api.ErrArg)
			in(t, r, []uint64{addr}, false)
			in(t, r, []uint64{addr, addr}, false)
		}
		in(t, r, nil, false)
		in(t, r, []uint64{}, false)
		ends(t, r, 0)
	}
}

// P6.2: which runs may be, by all numbers that stand at an edge, held against numbers that have no end.
func TestWhichRunsMayBe(t *testing.T) {
	numbers := []uint64{0, 1, 2, 15, 16, 1023, 1024, 1025, 349525, size/2 - 1, size / 2, size/2 + 1, size - 1024, size - 1023, size - 2, size - 1, size, size + 1, 1 << 32, 1 << 54, 1 << 62, 1<<63 - 1, 1 << 63, greatest - size, greatest - 1023, greatest - 1, greatest}
	counts := append(noIndexes(1024), 0, 1, 2, 3, 4, 1023, 1024, 1025)
	for _, from := range numbers {
		for _, bytes := range numbers {
			for _, n := range counts {
				r := geo.Run{From: from, Size: bytes, N: n}
				if !mayBe(r) {
					ends(t, r, 0)
					in(t, r, nil, false)
					block(t, r, 0, 0, api.ErrArg)
					continue
				}
				ends(t, r, from+uint64(n)*bytes)
				in(t, r, nil, true)
				if n > 0 {
					block(t, r, n-1, from+uint64(n-1)*bytes, api.OK)
				}
				block(t, r, n, 0, api.ErrRange)
			}
		}
	}
}

// P6.2: of none, and of one, none meet; nil and empty are one.
func TestMeetOfFew(t *testing.T) {
	meet(t, false)
	meet(t, false, []geo.Run{}...)
	for _, r := range edges() {
		meet(t, false, r)
		meet(t, r.N > 0, r, r)
		meet(t, r.N > 0, r, r, r)
	}
}

// P6.2: runs that touch don't meet; one byte more, and they do.
func TestMeetOfTwo(t *testing.T) {
	r := geo.Run{From: 1024, Size: 16, N: 64} // to 2048
	for _, x := range []struct {
		o    geo.Run
		want bool
	}{
		{geo.Run{From: 2048, Size: 16, N: 64}, false},
		{geo.Run{From: 2047, Size: 16, N: 64}, true},
		{geo.Run{From: 2047, Size: 1, N: 1}, true},
		{geo.Run{From: 2048, Size: 1, N: 1}, false},
		{geo.Run{From: 0, Size: 1024, N: 1}, false},
		{geo.Run{From: 0, Size: 1025, N: 1}, true},
		{geo.Run{From: 0, Size: 1, N: 1024}, false},
		{geo.Run{From: 1, Size: 1, N: 1024}, true},
		{geo.Run{From: 1023, Size: 1, N: 1}, false},
		{geo.Run{From: 1024, Size: 1, N: 1}, true},
		{geo.Run{From: 0, Size: 4096, N: 1}, true},
		{geo.Run{From: 0, Size: size, N: 1}, true},
		{geo.Run{From: 1500, Size: 3, N: 3}, true},
		{geo.Run{From: 1024, Size: 1024, N: 1}, true},
		{geo.Run{From: size - 1, Size: 1, N: 1}, false},
		// runs of no blocks, wherever they begin
		{geo.Run{From: 1024, Size: 16}, false},
		{geo.Run{From: 1500, Size: 1}, false},
		{geo.Run{From: 2047, Size: size}, false},
		{geo.Run{From: 0, Size: size}, false},
		{geo.Run{From: size, Size: size}, false},
	} {
		meet(t, x.want, r, x.o)
		meet(t, x.want, x.o, r)
	}
	first, last := geo.Run{From: 0, Size: 1, N: 1}, geo.Run{From: size - 1, Size: 1, N: 1}
	all := geo.Run{From: 0, Size: 1024, N: 1024}
	meet(t, false, first, last)
	meet(t, true, first, all)
	meet(t, true, last, all)
	meet(t, false, first, last, geo.Run{From: 1, Size: size - 2, N: 1})
}

// P6.2: a run that may not be meets none, itself neither, and is in no one's way.
func TestMeetOfRunsThatMayNotBe(t *testing.T) {
	all := geo.Run{From: 0, Size: size, N: 1}
	a, b := geo.Run{From: 1024, Size: 16, N: 64}, geo.Run{From: 2048, Size: 16, N: 64}
	for _, no := range wrong() {
		meet(t, false, no)
		meet(t, false, no, no)
		meet(t, false, no, all)
		meet(t, false, all, no)
		meet(t, false, no, a, no, b, no)
		meet(t, true, no, a, no, a, no)
		meet(t, true, all, no, b)
	}
	meet(t, false, wrong()...)
	meet(t, false, append(wrong(), all)...)
	meet(t, true, append(wrong(), all, all)...)
}

// share says, address by address, whether any two of small runs have one in common.
func share(l []geo.Run, most int) bool {
	seen := make([]bool, most)
	for _, r := range l {
		owner, _ := owners(r, most)
		for addr, i := range owner {
			if i < 0 {
				continue
			}
			if seen[addr] {
				return true
			}
			seen[addr] = true
		}
	}
	return false
}

// P6.2: all pairs and triples of small runs, in all orders, held against addresses that are gone through one by one.
func TestMeetOfSmallRuns(t *testing.T) {
	var all []geo.Run
	for from := range uint64(5) {
		for bytes := uint64(1); bytes <= 3; bytes++ {
			for n := range 3 {
				all = append(all, geo.Run{From: from, Size: bytes, N: n})
			}
		}
	}
	for _, a := range all {
		for _, b := range all {
			meet(t, share([]geo.Run{a, b}, 12), a, b)
			for _, c := range all {
				meet(t, share([]geo.Run{a, b, c}, 12), a, b, c)
			}
		}
	}
}

// P6.2: rows of runs that are picked at will, those that meet and those that don't.
func TestMeetOfRows(t *testing.T) {
	r := rand.New(rand.NewPCG(6, 6))
	apart, together := 0, 0
	for range 4000 {
		l := make([]geo.Run, 2+r.IntN(8))
		for i := range l {
			l[i] = geo.Run{From: r.Uint64N(200), Size: 1 + r.Uint64N(5), N: r.IntN(6)}
		}
		want := share(l, 256)
		meet(t, want, l...)
		if want {
			together++
		} else {
			apart++
		}
	}
	if apart < 100 || together < 100 {
		t.Error(apart, together)
	}
}

// P6.2: two that meet are found wherever they stand; runs that stand between them, or between whose beginnings they stand, hide none.
func TestMeetWhereverTheyStand(t *testing.T) {
	const count = 40
	for i := range count {
		for j := range count {
			l := make([]geo.Run, count)
			for k := range l {
				l[k] = geo.Run{From: uint64(count-k) * 100, Size: 10, N: 10}
			}
			meet(t, false, l...)
			if i == j {
				continue
			}
			l[i] = geo.Run{From: l[j].From + 99, Size: 1, N: 1}
			meet(t, true, l...)
			l[i] = geo.Run{From: l[j].From + 99, Size: 1}
			meet(t, false, l...)
		}
	}
}

// P6.2: as many runs as there are addresses, each of one, and one more; that ends soon.
func TestMeetOfVeryMany(t *testing.T) {
	l := make([]geo.Run, 0, size+1)
	for addr := range uint64(size) {
		l = append(l, geo.Run{From: addr, Size: 1, N: 1})
	}
	meet(t, false, l...)
	slices.Reverse(l)
	meet(t, false, l...)
	meet(t, true, append(l, geo.Run{From: 517, Size: 1, N: 1})...)
	meet(t, false, append(l, geo.Run{From: 517, Size: 1})...)
}

// What is handed in stays as it is, its order and its spare room too.
func TestArgumentsStay(t *testing.T) {
	runs := []geo.Run{{From: 5000, Size: 16, N: 4}, {}, {From: 3000, Size: 16, N: 4}, {From: 4000, Size: 16, N: 0}, {From: 1000, Size: 16, N: 4}, {From: 77, Size: 1, N: 1}, {From: 7, Size: 1, N: 1}}
	before := slices.Clone(runs)
	meet(t, false, runs[:5]...)
	if !slices.Equal(runs, before) {
		t.Error(runs)
	}
	l := []uint64{1087, 1024, 1040, 78, 77}
	was := slices.Clone(l)
	r := geo.Run{From: 1024, Size: 16, N: 4}
	in(t, r, l[:3], true)
	in(t, r, l[:4], false)
	if !slices.Equal(l, was) || r != (geo.Run{From: 1024, Size: 16, N: 4}) {
		t.Error(l, r)
	}
}

// P6.3: an address is in one block of a run, or in none; of runs that don't meet it is in one at most.
func TestOneBlockOrNone(t *testing.T) {
	l := []geo.Run{{From: 1024, Size: 48, N: 21}, {From: 2048, Size: 384, N: 5}, {From: 4096, Size: 16, N: 64}, {From: 3968, Size: 128, N: 1}, {From: 4096, Size: 16}}
	meet(t, false, l...)
	for addr := range uint64(6000) {
		found := 0
		for _, r := range l {
			blocks := 0
			for i := range r.N {
				if first, e := r.Block(i); e == api.OK && addr >= first && addr-first < r.Size {
					blocks++
				}
			}
			if blocks > 1 || r.In(addr) != (blocks == 1) {
				t.Errorf("%+v: address %d is in %d blocks, In %v", r, addr, blocks, r.In(addr))
			}
			found += blocks
		}
		if found > 1 {
			t.Errorf("address %d is in %d blocks", addr, found)
		}
	}
}
