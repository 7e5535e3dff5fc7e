package ledger_test

import (
	"math/rand/v2"
	"slices"
	"testing"

	"allotment/api"
	"allotment/ledger"
)

// kept is a block that a ledger is to have.
type kept struct {
	b    api.Block
	held bool
}

// twin is a ledger, and beside it the blocks that it is to have, in the order in which they came.
type twin struct {
	t    *testing.T
	l    *ledger.Ledger
	kept []kept
	done []deed
}

// deed is a call that was made, told only if a test fails.
type deed struct {
	what string
	x    any
}

func newTwin(t *testing.T) *twin { return &twin{t: t, l: &ledger.Ledger{}} }

// of is a ledger that has these blocks, none held.
func of(t *testing.T, l ...api.Block) *twin {
	t.Helper()
	w := newTwin(t)
	for _, b := range l {
		w.want("made", w.adds(b), api.OK)
	}
	return w
}

func (w *twin) fatal(what ...any) {
	w.t.Helper()
	for _, d := range w.done {
		w.t.Log(d.what, d.x)
	}
	w.t.Fatal(what...)
}

func (w *twin) does(what string, x any) { w.done = append(w.done, deed{what, x}) }

func (w *twin) want(what string, e, f api.Errno) {
	w.t.Helper()
	if e != f {
		w.fatal(what, "error", e, "wanted", f)
	}
}

// takes is how many bytes a block takes.
func takes(b api.Block) uint64 {
	if b.N == 0 {
		return 1
	}
	return b.N
}

// aligns are the numbers that may be an Align, written out.
var aligns = []uint64{1, 2, 4, 8, 16, 32, 64, 128, 256, 512, 1024}

// may says whether a block may be; its numbers are held against the limits one by one, so that none is added to another that is beyond them.
func may(b api.Block) bool {
	return b.Addr < 1048576 && b.N <= 1048576 && b.Addr+takes(b) <= 1048576 && slices.Contains(aligns, b.Align) && b.Addr%b.Align == 0
}

// among says whether an address is among the bytes that a block takes.
func among(addr uint64, b api.Block) bool { return addr >= b.Addr && addr-b.Addr < takes(b) }

// meet says whether n bytes from an address on, n at least 1, meet those of a block: one of both begins among the other one.
func meet(addr, n uint64, b api.Block) bool {
	return among(addr, b) || b.Addr >= addr && b.Addr-addr < n
}

// where is where a block stands that begins at an address; -1, if none does.
func (w *twin) where(addr uint64) int {
	return slices.IndexFunc(w.kept, func(k kept) bool { return k.b.Addr == addr })
}

// adds holds an Add against the blocks, and answers its error, as the others do.
func (w *twin) adds(b api.Block) api.Errno {
	w.t.Helper()
	w.does("Add", b)
	f := api.OK
	switch {
	case !may(b):
		f = api.ErrArg
	case slices.ContainsFunc(w.kept, func(k kept) bool { return meet(b.Addr, takes(b), k.b) }):
		f = api.ErrThere
	default:
		w.kept = append(w.kept, kept{b, false})
	}
	w.want("Add", w.l.Add(b), f)
	return f
}

func (w *twin) drops(addr ...uint64) api.Errno {
	w.t.Helper()
	w.does("Drop", slices.Clone(addr))
	f := api.OK
	for _, a := range addr {
		i := w.where(a)
		if i < 0 {
			f = api.ErrNone
			break
		}
		w.kept = slices.Delete(w.kept, i, i+1)
	}
	w.want("Drop", w.l.Drop(addr...), f)
	return f
}

// turns has some be held, or not, till one is so already.
func (w *twin) turns(addr []uint64, held bool, already api.Errno) api.Errno {
	for _, a := range addr {
		i := w.where(a)
		switch {
		case i < 0:
			return api.ErrNone
		case w.kept[i].held == held:
			return already
		}
		w.kept[i].held = held
	}
	return api.OK
}

func (w *twin) holds(addr ...uint64) api.Errno {
	w.t.Helper()
	w.does("Hold", slices.Clone(addr))
	f := w.turns(addr, true, api.ErrBusy)
	w.want("Hold", w.l.Hold(addr...), f)
	return f
}

func (w *twin) lets(addr ...uint64) api.Errno {
	w.t.Helper()
	w.does("Let", slices.Clone(addr))
	f := w.turns(addr, false, api.ErrIdle)
	w.want("Let", w.l.Let(addr...), f)
	return f
}

// tells is what is told of a block at a place of kept, or of none.
func (w *twin) tells(i int) (api.Block, api.Errno) {
	switch {
	case i < 0:
		return api.Block{}, api.ErrNone
	case w.kept[i].held:
		return api.Block{}, api.ErrBusy
	}
	return w.kept[i].b, api.OK
}

// at holds what is told of an address against the blocks.
func (w *twin) at(addr uint64) {
	w.t.Helper()
	b, e := w.l.At(addr)
	if c, f := w.tells(w.where(addr)); b != c || e != f {
		w.fatal("At", addr, b, e, "wanted", c, f)
	}
	b, e = w.l.In(addr)
	i := slices.IndexFunc(w.kept, func(k kept) bool { return among(addr, k.b) })
	if c, f := w.tells(i); b != c || e != f {
		w.fatal("In", addr, b, e, "wanted", c, f)
	}
}

// free holds what is told of some bytes against the blocks.
func (w *twin) free(addr, n uint64) {
	w.t.Helper()
	f := n == 0 || n-1 <= ^uint64(0)-addr && !slices.ContainsFunc(w.kept, func(k kept) bool { return meet(addr, n, k.b) })
	if w.l.Free(addr, n) != f {
		w.fatal("Free", addr, n, "wanted", f)
	}
}

// blocks are those that it is to have, rising.
func (w *twin) blocks() []api.Block {
	var l []api.Block
	for _, k := range w.kept {
		l = append(l, k.b)
	}
	slices.SortFunc(l, func(a, b api.Block) int { return int(a.Addr) - int(b.Addr) })
	return l
}

// told holds All and Bytes against the blocks, and twice, since telling changes nothing.
func (w *twin) told() {
	w.t.Helper()
	l, n := w.blocks(), uint64(0)
	for _, b := range l {
		n += b.N
	}
	for range 2 {
		if all := w.l.All(); !slices.Equal(all, l) {
			w.fatal("All", all, "wanted", l)
		}
		if got := w.l.Bytes(); got != n {
			w.fatal("Bytes", got, "wanted", n)
		}
	}
}

// edges are addresses by which a block, or a row of bytes, is told from the next one.
func (w *twin) edges() []uint64 {
	l := []uint64{0, 1, 1023, 1024, 1025, 1048575, 1048576, 1048577, 1 << 32, 1 << 40, 1<<40 + 1, 1<<63 - 1, 1 << 63, 1<<64 - 1048576, 1<<64 - 1}
	for _, k := range w.kept {
		end := k.b.Addr + takes(k.b)
		l = append(l, k.b.Addr-1, k.b.Addr, k.b.Addr+1, end-1, end, end+1, k.b.Addr+1<<20, k.b.Addr+1<<32)
	}
	return l
}

// all asks the ledger of all that it tells.
func (w *twin) all() {
	w.t.Helper()
	w.told()
	l := w.edges()
	for _, a := range l {
		w.at(a)
		for _, b := range l {
			w.free(a, b-a)
			w.free(a, b)
		}
	}
}

// near asks the ledger of its blocks, and of all that begins at one of n addresses from one on.
func (w *twin) near(from, n uint64) {
	w.t.Helper()
	w.told()
	for i := range n {
		w.at(from + i)
		for m := range n + 1 {
			w.free(from+i, m)
		}
	}
}

// has holds the blocks against those that are written out.
func (w *twin) has(what string, l []kept) {
	w.t.Helper()
	mine := slices.Clone(w.kept)
	slices.SortFunc(mine, func(a, b kept) int { return int(a.b.Addr) - int(b.b.Addr) })
	if !slices.Equal(mine, l) {
		w.fatal(what, mine, "wanted", l)
	}
}

// is holds the ledger against blocks that are written out, and whether they are held.
func (w *twin) is(what string, l ...kept) {
	w.t.Helper()
	w.has(what, l)
	w.all()
}

func open(addr, n uint64) kept      { return kept{api.Block{Addr: addr, N: n, Align: 1}, false} }
func held(addr, n uint64) kept      { return kept{api.Block{Addr: addr, N: n, Align: 1}, true} }
func some(addr, n uint64) api.Block { return api.Block{Addr: addr, N: n, Align: 1} }

// P15.1 to P15.3: all short rows of calls of blocks within one address, and within up to four.
func TestAllShortRows(t *testing.T) {
	for _, x := range []struct{ bytes, calls int }{{1, 5}, {2, 4}, {3, 3}, {4, 3}} {
		var l []func(w *twin)
		for a := range uint64(x.bytes) {
			for n := range uint64(x.bytes) - a + 1 {
				l = append(l, func(w *twin) { w.adds(some(a, n)) })
			}
			l = append(l,
				func(w *twin) { w.drops(a) },
				func(w *twin) { w.holds(a) },
				func(w *twin) { w.lets(a) })
		}
		l = append(l,
			func(w *twin) { w.drops(1, 0) },
			func(w *twin) { w.holds(0, 1) },
			func(w *twin) { w.lets(1, 0) })
		eachRow(len(l), x.calls, func(row []int) {
			w := newTwin(t)
			for _, i := range row {
				l[i](w)
			}
			w.near(0, uint64(x.bytes)+1)
		})
	}
}

// eachRow hands on all rows of at most so many of the numbers from 0 to n - 1.
func eachRow(n, most int, yield func([]int)) {
	var row []int
	var goOn func()
	goOn = func() {
		yield(row)
		if len(row) == most {
			return
		}
		for i := range n {
			row = append(row, i)
			goOn()
			row = row[:len(row)-1]
		}
	}
	goOn()
}

// reach is a kind of long row: how far apart addresses are, and how great blocks.
type reach struct {
	within, step, most uint64
}

func (x reach) addr(r *rand.Rand) uint64 { return r.Uint64N(x.within/x.step+1) * x.step }

func (x reach) block(r *rand.Rand) api.Block {
	return api.Block{Addr: x.addr(r), N: r.Uint64N(x.most + 1), Align: 1 << r.IntN(12) >> r.IntN(12)}
}

// addrs are some addresses: of blocks that are there, but for one in four.
func (x reach) addrs(r *rand.Rand, w *twin) []uint64 {
	var l []uint64
	for range r.IntN(4) {
		a := x.addr(r)
		if len(w.kept) > 0 && r.IntN(4) > 0 {
			a = w.kept[r.IntN(len(w.kept))].b.Addr
		}
		l = append(l, a)
	}
	return l
}

// P15.1 to P15.3: long rows of calls, of blocks that are close together, and far apart, within a slice, and over many.
func TestLongRows(t *testing.T) {
	r := rand.New(rand.NewPCG(15, 3))
	met := map[string]map[api.Errno]int{"Add": {}, "Drop": {}, "Hold": {}, "Let": {}}
	for _, x := range []reach{{40, 1, 8}, {3000, 1, 100}, {5000, 16, 1500}, {1048576, 1024, 5000}, {1048576, 4096, 300000}, {1048576, 1, 1048576}} {
		for range 6 {
			w := newTwin(t)
			for i := range 400 {
				switch r.IntN(8) {
				case 0, 1, 2:
					met["Add"][w.adds(x.block(r))]++
				case 3:
					met["Drop"][w.drops(x.addrs(r, w)...)]++
				case 4, 5:
					met["Hold"][w.holds(x.addrs(r, w)...)]++
				case 6, 7:
					met["Let"][w.lets(x.addrs(r, w)...)]++
				}
				w.told()
				a := x.addr(r)
				w.at(a)
				w.free(a, r.Uint64N(x.most+1))
				if i%50 == 0 {
					w.all()
				}
				w.apart()
			}
		}
	}
	for what, l := range map[string][]api.Errno{"Add": {api.OK, api.ErrArg, api.ErrThere}, "Drop": {api.OK, api.ErrNone}, "Hold": {api.OK, api.ErrNone, api.ErrBusy}, "Let": {api.OK, api.ErrNone, api.ErrIdle}} {
		for _, e := range l {
			if met[what][e] < 300 {
				t.Error(what, "error", e, met[what][e], "times")
			}
		}
	}
}

// apart says that the blocks that the ledger itself tells of don't meet, and are within what there is.
func (w *twin) apart() {
	w.t.Helper()
	from := uint64(0)
	for _, b := range w.l.All() {
		if b.Addr < from || b.Addr%b.Align != 0 {
			w.fatal(b, "meets the one ahead of it, or is at a wrong place")
		}
		from = b.Addr + takes(b)
	}
	if from > 1048576 {
		w.fatal("beyond what there is", from)
	}
}
