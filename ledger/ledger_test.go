package ledger_test

import (
	"slices"
	"testing"

	"allotment/api"
	"allotment/ledger"
)

const (
	all      = 1048576
	greatest = 1<<64 - 1
)

// strange are addresses that no block begins at.
func strange() []uint64 {
	return []uint64{all, all + 1, 1 << 31, 1 << 32, 1 << 40, 1<<40 + 1, 1 << 54, 1 << 63, 1<<64 - all, greatest - 1, greatest}
}

// The chapter's example.
func TestExamples(t *testing.T) {
	l := &ledger.Ledger{}
	e, f := l.Add(api.Block{Addr: 32, N: 16, Align: 1}), l.Add(api.Block{Addr: 40, N: 8, Align: 1})
	if e != api.OK || f != api.ErrThere {
		t.Errorf("Add: errors %d, %d", e, f)
	}
	if e := l.Hold(32); e != api.OK {
		t.Errorf("Hold: error %d", e)
	}
	if b, e := l.At(32); b != (api.Block{}) || e != api.ErrBusy {
		t.Errorf("At: %v, error %d", b, e)
	}
}

// Of a nil Ledger: ErrNil, of what may not be, and of no addresses, too; the others zero: Free of no bytes is false.
func TestNil(t *testing.T) {
	var l *ledger.Ledger
	for _, e := range []api.Errno{
		l.Add(api.Block{}), l.Add(api.Block{Align: 1}), l.Add(api.Block{Addr: greatest, N: greatest, Align: 3}),
		l.Drop(), l.Drop(0), l.Drop(1, greatest), l.Hold(), l.Hold(0), l.Hold(0, 0), l.Let(), l.Let(0), l.Let(greatest, 1),
	} {
		if e != api.ErrNil {
			t.Errorf("error %d", e)
		}
	}
	for _, a := range append(strange(), 0, 1, 1024) {
		b, e := l.At(a)
		c, f := l.In(a)
		if b != (api.Block{}) || e != api.ErrNil || c != b || f != e {
			t.Error(a, b, e, c, f)
		}
		if l.Free(a, 0) || l.Free(a, 1) || l.Free(a, greatest) {
			t.Error("Free", a)
		}
	}
	if len(l.All()) != 0 || l.Bytes() != 0 {
		t.Error(l.All(), l.Bytes())
	}
}

// A Ledger's zero value has no blocks; what is asked of it leaves it so.
func TestZeroValue(t *testing.T) {
	var l ledger.Ledger
	for range 2 {
		for _, a := range append(strange(), 0, 1, 1023, 1024, all-1) {
			for _, e := range []api.Errno{l.Drop(a), l.Hold(a), l.Let(a), l.Drop(a, 0), l.Hold(a, 0), l.Let(a, 0)} {
				if e != api.ErrNone {
					t.Errorf("of %d: error %d", a, e)
				}
			}
			b, e := l.At(a)
			c, f := l.In(a)
			if b != (api.Block{}) || e != api.ErrNone || c != b || f != e {
				t.Error(a, b, e, c, f)
			}
			if !l.Free(a, 0) || !l.Free(a, 1) {
				t.Error("not Free", a)
			}
		}
		for _, e := range []api.Errno{l.Drop(), l.Hold(), l.Let()} {
			if e != api.OK {
				t.Errorf("of none: error %d", e)
			}
		}
		if len(l.All()) != 0 || l.Bytes() != 0 || !l.Free(0, all) || !l.Free(0, greatest) {
			t.Error(l.All(), l.Bytes())
		}
	}
	if e := l.Add(some(0, 1)); e != api.OK || len(l.All()) != 1 {
		t.Errorf("Add: error %d, %v", e, l.All())
	}
}

// P15.1: Align may be a power of two up to 1024, and no other number.
func TestAlign(t *testing.T) {
	for a := range uint64(4200) {
		w := newTwin(t)
		f := api.ErrArg
		if slices.Contains(aligns, a) {
			f = api.OK
		}
		for _, addr := range []uint64{0, 2048, 524288} {
			w.want("Add", w.adds(api.Block{Addr: addr, N: 5, Align: a}), f)
		}
		w.told()
	}
	w := newTwin(t)
	for i := 11; i < 64; i++ {
		for _, d := range []uint64{0, 1, 2, greatest} {
			w.want("Add", w.adds(api.Block{N: 5, Align: 1<<i + d}), api.ErrArg)
			w.want("Add", w.adds(api.Block{Addr: 1 << 19, N: 5, Align: 1<<i + d}), api.ErrArg)
		}
	}
	w.want("Add", w.adds(api.Block{N: 5, Align: greatest}), api.ErrArg)
	w.is("refused")
}

// P15.1: Addr is a multiple of Align, 0 one of each.
func TestMultiples(t *testing.T) {
	for _, a := range aligns {
		for addr := range uint64(2100) {
			w := newTwin(t)
			for _, b := range []api.Block{{Addr: addr, N: 3, Align: a}, {Addr: all - addr - 1, N: 1, Align: a}} {
				f := api.ErrArg
				if b.Addr%a == 0 {
					f = api.OK
				}
				w.want("Add", w.adds(b), f)
			}
			w.told()
		}
	}
}

// P15.1: Addr and what it takes together are at most MaxSize, wherever the sum wraps round; so is N.
func TestWithin(t *testing.T) {
	for _, x := range []struct {
		addr, n uint64
		f       api.Errno
	}{
		{0, 0, api.OK},
		{0, 1, api.OK},
		{0, all - 1, api.OK},
		{0, all, api.OK},
		{0, all + 1, api.ErrArg},
		{0, greatest, api.ErrArg},
		{0, 1 << 32, api.ErrArg},
		{0, 1<<32 + 1, api.ErrArg},
		{0, 1 << 40, api.ErrArg},
		{0, 1<<63 + 1, api.ErrArg},
		{1, all - 1, api.OK},
		{1, all, api.ErrArg},
		{1, greatest, api.ErrArg},
		{2, greatest, api.ErrArg},
		{2, greatest - 1, api.ErrArg},
		{1023, all - 1023, api.OK},
		{1023, all - 1022, api.ErrArg},
		{all / 2, all / 2, api.OK},
		{all / 2, all/2 + 1, api.ErrArg},
		{all / 2, 1<<64 - all/2, api.ErrArg},
		{all / 2, 1<<64 - all/2 + 1, api.ErrArg},
		{all - 2, 2, api.OK},
		{all - 2, 3, api.ErrArg},
		{all - 1, 0, api.OK},
		{all - 1, 1, api.OK},
		{all - 1, 2, api.ErrArg},
		{all, 0, api.ErrArg},
		{all, 1, api.ErrArg},
		{all, 1<<64 - all, api.ErrArg},
		{all, greatest, api.ErrArg},
		{all + 1, 0, api.ErrArg},
		{1 << 32, 0, api.ErrArg},
		{1 << 32, 1, api.ErrArg},
		{1 << 40, 0, api.ErrArg},
		{1 << 40, 1, api.ErrArg},
		{1 << 63, 1 << 63, api.ErrArg},
		{1 << 63, 1<<63 + 1, api.ErrArg},
		{1<<64 - all, all, api.ErrArg},
		{1<<64 - all, all + 1, api.ErrArg},
		{greatest - 1, 2, api.ErrArg},
		{greatest - 1, 3, api.ErrArg},
		{greatest, 0, api.ErrArg},
		{greatest, 1, api.ErrArg},
		{greatest, 2, api.ErrArg},
		{greatest, greatest, api.ErrArg},
	} {
		w := newTwin(t)
		w.want("Add", w.adds(some(x.addr, x.n)), x.f)
		if x.f == api.OK {
			w.is("added", open(x.addr, x.n))
		} else {
			w.is("refused")
		}
	}
}

// P15.1: what it takes meets what another one takes in no way: all pairs of blocks of few bytes, held or not, within a slice, and over an edge of two.
func TestTwoBlocks(t *testing.T) {
	for _, base := range []uint64{0, 1020, all - 10} {
		for a := range uint64(6) {
			for n := range uint64(5) {
				for b := range uint64(6) {
					for m := range uint64(5) {
						for _, hold := range []bool{false, true} {
							w := of(t, some(base+a, n))
							first := open(base+a, n)
							if hold {
								w.holds(base + a)
								first.held = true
							}
							meets := false
							for i := range max(n, 1) {
								for j := range max(m, 1) {
									meets = meets || a+i == b+j
								}
							}
							e := w.adds(some(base+b, m))
							if (e == api.ErrThere) != meets || e == api.ErrArg {
								w.fatal("error", e, "meets", meets)
							}
							l := []kept{first, open(base+b, m)}
							switch {
							case meets:
								l = l[:1]
							case b < a:
								slices.Reverse(l)
							}
							w.has("both", l)
							w.near(base, 12)
						}
					}
				}
			}
		}
	}
}

// P15.1: one that is around others, within one, ahead of, or behind one, or over two; beside them there is room to the last byte.
func TestAddAmongOthers(t *testing.T) {
	l := []kept{open(100, 50), open(200, 0), open(1000, 3000), open(8192, 16384)}
	for _, x := range []struct {
		addr, n uint64
		f       api.Errno
	}{
		{0, 100, api.OK},
		{0, 101, api.ErrThere},
		{99, 1, api.OK},
		{99, 0, api.OK},
		{99, 2, api.ErrThere},
		{100, 0, api.ErrThere},
		{100, 50, api.ErrThere},
		{110, 10, api.ErrThere},
		{120, 0, api.ErrThere},
		{149, 0, api.ErrThere},
		{149, 2, api.ErrThere},
		{90, 70, api.ErrThere},
		{150, 50, api.OK},
		{150, 51, api.ErrThere},
		{140, 20, api.ErrThere},
		{199, 3, api.ErrThere},
		{200, 0, api.ErrThere},
		{200, 1, api.ErrThere},
		{201, 799, api.OK},
		{201, 800, api.ErrThere},
		{199, 0, api.OK},
		{3999, 0, api.ErrThere},
		{3000, 10, api.ErrThere},
		{2048, 1024, api.ErrThere},
		{4000, 4192, api.OK},
		{4000, 4193, api.ErrThere},
		{500, 20000, api.ErrThere},
		{8191, 1, api.OK},
		{8191, 2, api.ErrThere},
		{16384, 16384, api.ErrThere},
		{24575, 0, api.ErrThere},
		{24576, all - 24576, api.OK},
		{24575, all - 24576, api.ErrThere},
		{0, all, api.ErrThere},
		{150, all - 150, api.ErrThere},
		{all - 1, 1, api.OK},
		{24576, all, api.ErrArg},
		{0, all + 1, api.ErrArg},
		{100, greatest, api.ErrArg},
	} {
		w := newTwin(t)
		for _, k := range l {
			w.want("made", w.adds(k.b), api.OK)
		}
		w.want("Add", w.adds(some(x.addr, x.n)), x.f)
		if x.f != api.OK {
			w.is("refused", l...)
			continue
		}
		w.all()
		w.want("again", w.adds(some(x.addr, 0)), api.ErrThere)
	}
}

// P15.1: of one that may not be, and meets another one, ErrArg is told.
func TestAddOfBothErrors(t *testing.T) {
	w := of(t, some(64, 64), some(all-64, 64))
	for _, b := range []api.Block{
		{Addr: 64, N: 64}, {Addr: 64, N: 64, Align: 3}, {Addr: 64, N: 64, Align: 128}, {Addr: 65, N: 1, Align: 2}, {Addr: 64, N: 64, Align: 2048},
		{Addr: 64, N: all, Align: 1}, {Addr: 64, N: greatest, Align: 1}, {Addr: 64, N: 1<<64 - 64, Align: 1}, {Addr: all - 64, N: 65, Align: 1}, {Addr: all - 1, N: 2, Align: 1},
	} {
		w.want("Add", w.adds(b), api.ErrArg)
	}
	w.is("refused", open(64, 64), open(all-64, 64))
}

// P15.1 and P15.2: a block is told with its own N, 0 too, and its own Align.
func TestToldAsAdded(t *testing.T) {
	w := newTwin(t)
	l := []api.Block{{Addr: 0, N: 0, Align: 1024}, {Addr: 1, N: 7, Align: 1}, {Addr: 8, N: 1, Align: 8}, {Addr: 1024, N: 2000, Align: 1024}, {Addr: 4096, N: 100, Align: 2}, {Addr: 524288, N: 524288, Align: 512}}
	for _, b := range []int{3, 0, 5, 1, 4, 2} {
		w.want("Add", w.adds(l[b]), api.OK)
	}
	for _, b := range l {
		for _, a := range []uint64{b.Addr, b.Addr + takes(b) - 1, b.Addr + takes(b)/2} {
			if got, e := w.l.In(a); got != b || e != api.OK {
				t.Errorf("In(%d): %v, error %d", a, got, e)
			}
		}
		if got, e := w.l.At(b.Addr); got != b || e != api.OK {
			t.Errorf("At(%d): %v, error %d", b.Addr, got, e)
		}
	}
	if got := w.l.All(); !slices.Equal(got, l) {
		t.Error(got)
	}
	if n := w.l.Bytes(); n != 0+7+1+2000+100+524288 {
		t.Error(n)
	}
}

// P15.1: none at all, one, and many go, in whatever order they are told, held or not; where one was there is room again.
func TestDrop(t *testing.T) {
	l := []kept{open(0, 10), open(10, 0), open(11, 5), open(1024, 5000), open(6024, 1), open(all-1, 1)}
	made := func() *twin {
		w := newTwin(t)
		for _, k := range l {
			w.want("made", w.adds(k.b), api.OK)
		}
		return w
	}
	for i, k := range l {
		for _, hold := range []bool{false, true} {
			w := made()
			if hold {
				w.want("Hold", w.holds(k.b.Addr), api.OK)
			}
			w.want("one", w.drops(k.b.Addr), api.OK)
			w.is("one", slices.Concat(l[:i], l[i+1:])...)
			w.want("again", w.drops(k.b.Addr), api.ErrNone)
			w.want("and held", w.holds(k.b.Addr), api.ErrNone)
			w.want("and let", w.lets(k.b.Addr), api.ErrNone)
			w.want("and back", w.adds(k.b), api.OK)
			w.is("and back", l...)
			w.want("held anew", w.holds(k.b.Addr), api.OK)
		}
	}
	w := made()
	w.want("none", w.drops(), api.OK)
	w.is("none", l...)
	w.holds(11, 0)
	w.want("many", w.drops(6024, 0, 1024, 10), api.OK)
	w.is("many", held(11, 5), open(all-1, 1))
	w.want("all", w.drops(all-1, 11), api.OK)
	w.is("all")
	w.want("anew", w.adds(some(0, all)), api.OK)
	w.is("anew", open(0, all))
}

// P15.1: at the first address that no block begins at it is over: those ahead went, those behind stay.
func TestDropOfNone(t *testing.T) {
	for _, none := range append(strange(), 0, 1, 9, 11, 15, 31, 33, 63, 64, 1000, 2048, 2049, 1<<32+10, 1<<32+32) {
		w := of(t, some(10, 6), some(32, 32), some(1024, 2000))
		w.want("alone", w.drops(none), api.ErrNone)
		w.want("first", w.drops(none, 10, 32, 1024), api.ErrNone)
		w.is("first", open(10, 6), open(32, 32), open(1024, 2000))
		w.want("in the midst", w.drops(32, none, 10), api.ErrNone)
		w.is("in the midst", open(10, 6), open(1024, 2000))
		w.want("last", w.drops(1024, none), api.ErrNone)
		w.is("last", open(10, 6))
	}
	w := of(t, some(10, 6), some(32, 32))
	w.want("twice", w.drops(10, 10, 32), api.ErrNone)
	w.is("twice", open(32, 32))
}

// P15.1: none at all, one, and many are held; at one that is held, or none, it is over: those ahead are held.
func TestHold(t *testing.T) {
	w := of(t, some(10, 6), some(32, 32), some(64, 0), some(1024, 2000))
	w.want("none", w.holds(), api.OK)
	w.is("none", open(10, 6), open(32, 32), open(64, 0), open(1024, 2000))
	w.want("one", w.holds(32), api.OK)
	w.is("one", open(10, 6), held(32, 32), open(64, 0), open(1024, 2000))
	w.want("again", w.holds(32), api.ErrBusy)
	w.want("first", w.holds(32, 10), api.ErrBusy)
	w.is("first", open(10, 6), held(32, 32), open(64, 0), open(1024, 2000))
	w.want("in the midst", w.holds(1024, 32, 10), api.ErrBusy)
	w.is("in the midst", open(10, 6), held(32, 32), open(64, 0), held(1024, 2000))
	w.want("twice", w.holds(64, 64, 10), api.ErrBusy)
	w.is("twice", open(10, 6), held(32, 32), held(64, 0), held(1024, 2000))
	w.want("many", of(t, some(0, 1), some(1, 1), some(2, 1)).holds(2, 0, 1), api.OK)
}

// P15.1: an address at which no block begins, within one too, has none be held.
func TestHoldOfNone(t *testing.T) {
	for _, none := range append(strange(), 0, 9, 11, 15, 16, 33, 63, 65, 1025, 2048, 3023, 1<<32+10) {
		w := of(t, some(10, 6), some(32, 32), some(64, 0), some(1024, 2000))
		w.want("alone", w.holds(none), api.ErrNone)
		w.want("first", w.holds(none, 10), api.ErrNone)
		w.is("first", open(10, 6), open(32, 32), open(64, 0), open(1024, 2000))
		w.want("behind", w.holds(1024, 64, none, 32), api.ErrNone)
		w.is("behind", open(10, 6), open(32, 32), held(64, 0), held(1024, 2000))
		w.want("and let", w.lets(none, 64), api.ErrNone)
		w.want("and let, behind", w.lets(64, none, 1024), api.ErrNone)
		w.is("and let, behind", open(10, 6), open(32, 32), open(64, 0), held(1024, 2000))
	}
}

// P15.1: none at all, one, and many are let; at one that isn't held it is over: those ahead are let.
func TestLet(t *testing.T) {
	w := of(t, some(10, 6), some(32, 32), some(64, 0), some(1024, 2000))
	w.want("none", w.lets(), api.OK)
	w.want("one that isn't held", w.lets(10), api.ErrIdle)
	w.want("many", w.holds(1024, 64, 32, 10), api.OK)
	w.want("none", w.lets(), api.OK)
	w.is("none", held(10, 6), held(32, 32), held(64, 0), held(1024, 2000))
	w.want("one", w.lets(32), api.OK)
	w.is("one", held(10, 6), open(32, 32), held(64, 0), held(1024, 2000))
	w.want("again", w.lets(32), api.ErrIdle)
	w.want("first", w.lets(32, 10), api.ErrIdle)
	w.is("first", held(10, 6), open(32, 32), held(64, 0), held(1024, 2000))
	w.want("in the midst", w.lets(1024, 32, 10), api.ErrIdle)
	w.is("in the midst", held(10, 6), open(32, 32), held(64, 0), open(1024, 2000))
	w.want("twice", w.lets(64, 64, 10), api.ErrIdle)
	w.is("twice", held(10, 6), open(32, 32), open(64, 0), open(1024, 2000))
	w.want("to and fro", w.holds(64), api.OK)
	w.want("many", w.lets(64, 10), api.OK)
	w.is("many", open(10, 6), open(32, 32), open(64, 0), open(1024, 2000))
}

// P15.1: what was held is so no more when it was dropped, and added anew.
func TestAddedAnewIsNotHeld(t *testing.T) {
	w := of(t, some(10, 6), some(16, 6))
	w.holds(10, 16)
	w.drops(10)
	w.adds(some(10, 4))
	w.is("anew", open(10, 4), held(16, 6))
	w.want("Let", w.lets(10), api.ErrIdle)
}

// P15.2: all addresses of a block, and beside it, open or held; one of no bytes has one address.
func TestAtAndIn(t *testing.T) {
	for _, n := range []uint64{0, 1, 2, 1024, 5000, 20000} {
		for _, addr := range []uint64{0, 1, 1023, 1024, 5000, all - 20000} {
			b := some(addr, n)
			w := of(t, b)
			for _, hold := range []bool{false, true} {
				f := api.OK
				if hold {
					w.holds(addr)
					b, f = api.Block{}, api.ErrBusy
				}
				for a := addr - min(addr, 3); a < addr+max(n, 1)+3; a++ {
					at, in := api.ErrNone, api.ErrNone
					if a == addr {
						at = f
					}
					if a >= addr && a < addr+max(n, 1) {
						in = f
					}
					got, e := w.l.At(a)
					if e != at || e == api.OK && got != b || e != api.OK && got != (api.Block{}) {
						t.Fatalf("At(%d) of %d bytes at %d: %v, error %d", a, n, addr, got, e)
					}
					got, e = w.l.In(a)
					if e != in || e == api.OK && got != b || e != api.OK && got != (api.Block{}) {
						t.Fatalf("In(%d) of %d bytes at %d: %v, error %d", a, n, addr, got, e)
					}
				}
				w.all()
			}
		}
	}
}

// P15.2: rows of no bytes, of one, up to a block and into it, held or not, and up to 2^64, and beyond it.
func TestFree(t *testing.T) {
	for _, hold := range []bool{false, true} {
		w := of(t, some(100, 50), some(2000, 0), some(4096, 10000))
		if hold {
			w.holds(100, 2000, 4096)
		}
		for _, x := range []struct {
			addr, n uint64
			ok      bool
		}{
			{0, 0, true},
			{0, 100, true},
			{0, 101, false},
			{99, 1, true},
			{99, 2, false},
			{100, 0, true},
			{100, 1, false},
			{120, 0, true},
			{120, 1, false},
			{149, 1, false},
			{150, 1, true},
			{149, 2, false},
			{110, 20, false},
			{50, 200, false},
			{150, 1850, true},
			{150, 1851, false},
			{2000, 0, true},
			{2000, 1, false},
			{2001, 2095, true},
			{2001, 2096, false},
			{5000, 1, false},
			{14095, 1, false},
			{14096, 1, true},
			{14096, all, true},
			{14096, greatest - 14096, true},
			{14096, greatest - 14096 + 1, true},
			{14096, greatest - 14096 + 2, false},
			{14096, greatest, false},
			{14095, greatest - 14095 + 1, false},
			{0, all, false},
			{0, greatest, false},
			{1, greatest, false},
			{all, 0, true},
			{all, all, true},
			{all, greatest - all, true},
			{all, greatest - all + 1, true},
			{all, greatest - all + 2, false},
			{1<<32 + 100, 50, true},
			{1 << 63, 1 << 63, true},
			{1 << 63, 1<<63 + 1, false},
			{1 << 63, 1<<63 + 50, false},
			{1 << 63, 1<<63 + 200, false},
			{greatest, 0, true},
			{greatest, 1, true},
			{greatest, 2, false},
			{greatest, 50, false},
			{greatest, 200, false},
			{greatest, greatest, false},
			{greatest - 1, 2, true},
			{greatest - 1, 3, false},
		} {
			if w.l.Free(x.addr, x.n) != x.ok {
				t.Errorf("Free(%d, %d): %v", x.addr, x.n, !x.ok)
			}
		}
		w.all()
	}
}

// P15.2: all rows of bytes by some blocks that are close together.
func TestFreeOfAllRows(t *testing.T) {
	w := of(t, some(1020, 3), some(1023, 0), some(1026, 2), some(1030, 1))
	taken := []uint64{1020, 1021, 1022, 1023, 1026, 1027, 1030}
	for a := uint64(1015); a < 1036; a++ {
		ok := true
		for n := range uint64(20) {
			if w.l.Free(a, n) != ok {
				t.Errorf("Free(%d, %d): %v", a, n, !ok)
			}
			ok = ok && !slices.Contains(taken, a+n)
		}
	}
}

// P15.2: All rises by Addr, in whatever order blocks came, held or not; Bytes counts what was asked for.
func TestAllAndBytes(t *testing.T) {
	l := []api.Block{some(0, 0), some(1, 1), some(1023, 1), some(1024, 1000), some(3000, 0), some(70000, 70000), some(all-1, 0)}
	eachOrder(len(l), func(order []int) {
		w := newTwin(t)
		for _, i := range order {
			w.want("Add", w.adds(l[i]), api.OK)
		}
		w.told()
		w.holds(l[order[0]].Addr, l[order[3]].Addr)
		if got := w.l.All(); !slices.Equal(got, l) || w.l.Bytes() != 1+1+1000+70000 {
			w.fatal(got, w.l.Bytes())
		}
		w.drops(l[order[0]].Addr, l[order[1]].Addr)
		w.told()
	})
}

// eachOrder hands on all orders of the numbers from 0 to n - 1.
func eachOrder(n int, yield func([]int)) {
	eachRow(n, n, func(row []int) {
		if len(row) < n {
			return
		}
		sorted := slices.Clone(row)
		slices.Sort(sorted)
		if len(slices.Compact(sorted)) == n {
			yield(row)
		}
	})
}

// P15.2: a row that was handed out is new memory, its spare room too: written over, it changes neither the ledger nor another row.
func TestRowsAreNew(t *testing.T) {
	for n := range uint64(9) {
		w := newTwin(t)
		for i := range n {
			w.adds(some(i*600, 500))
		}
		l, other := w.l.All(), w.l.All()
		want := slices.Clone(l)
		l = l[:cap(l)]
		for i := range l {
			l[i] = some(9, 9)
		}
		w.is("written over", w.kept...)
		if !slices.Equal(other, want) {
			t.Error("two answers share", other)
		}
		_ = append(other, some(91, 91))
		w.adds(some(n*600, 500))
		w.drops(0)
		w.all()
		if !slices.Equal(other, want) {
			t.Error("a row that was handed out changed", other)
		}
	}
}

// What is handed in stays as it is, its spare room too, and isn't kept.
func TestArgumentsStay(t *testing.T) {
	w := of(t, some(1, 1), some(2, 1), some(3, 1), some(4, 1), some(5, 1))
	l := []uint64{1, 2, 3, 4, 5}
	w.holds(l[:3]...)
	w.lets(l[:2]...)
	w.drops(l[1:4]...)
	if !slices.Equal(l, []uint64{1, 2, 3, 4, 5}) {
		t.Error(l)
	}
	clear(l)
	w.is("what was handed in is written over", open(1, 1), open(5, 1))
}

// Two ledgers have nothing of one another.
func TestTwoLedgers(t *testing.T) {
	a, b := newTwin(t), newTwin(t)
	a.adds(some(0, 100))
	b.is("none")
	b.adds(some(50, 100))
	b.holds(50)
	a.is("one", open(0, 100))
	a.drops(0)
	b.is("the other one", held(50, 100))
}

// P15.3: all that may be found, or added, by one that is held is as if it weren't; only who asks for it gets none.
func TestHeldIsThere(t *testing.T) {
	w := of(t, some(32, 16))
	w.holds(32)
	for a := uint64(32); a < 48; a++ {
		w.want("Add", w.adds(some(a, 1)), api.ErrThere)
		if b, e := w.l.In(a); b != (api.Block{}) || e != api.ErrBusy {
			t.Errorf("In(%d): %v, error %d", a, b, e)
		}
	}
	if w.l.Free(47, 1) || len(w.l.All()) != 1 || w.l.Bytes() != 16 {
		t.Error(w.l.All(), w.l.Bytes())
	}
	w.lets(32)
	if b, e := w.l.At(32); b != some(32, 16) || e != api.OK {
		t.Errorf("At: %v, error %d", b, e)
	}
}

// P15.1 to P15.3: as many blocks as there can be, of no bytes and of one, added rising, falling and by leaps, held, let and dropped all in one call: each call ends soon.
func TestVeryMany(t *testing.T) {
	for _, x := range []struct{ first, leap uint64 }{{0, 1}, {all - 1, all - 1}, {17, 40503}} {
		l, addrs := &ledger.Ledger{}, make([]uint64, all)
		for i := range addrs {
			addrs[i] = (x.first + uint64(i)*x.leap) % all
			if e := l.Add(api.Block{Addr: addrs[i], N: addrs[i] % 2, Align: 1}); e != api.OK {
				t.Fatalf("Add at %d: error %d", addrs[i], e)
			}
		}
		for _, a := range addrs[:1000] {
			if e := l.Add(some(a, 1)); e != api.ErrThere {
				t.Fatalf("Add at %d: error %d", a, e)
			}
		}
		for i, b := range l.All() {
			if b != some(uint64(i), uint64(i)%2) {
				t.Fatal(i, b)
			}
		}
		if n := l.Bytes(); n != all/2 {
			t.Error(n, "bytes")
		}
		for _, e := range []api.Errno{l.Hold(addrs...), l.Let(addrs...), l.Hold(addrs[5]), l.Drop(addrs[1:]...)} {
			if e != api.OK {
				t.Fatalf("error %d", e)
			}
		}
		if got := l.All(); len(got) != 1 || got[0].Addr != addrs[0] {
			t.Error(got)
		}
	}
}

// P15.2: few blocks that are far from where one asks, below and above all others.
func TestFarApart(t *testing.T) {
	w := of(t, some(all-1, 1))
	w.all()
	w.adds(some(0, 0))
	w.is("both ends", open(0, 0), open(all-1, 1))
	w.want("between", w.adds(some(1, all-2)), api.OK)
	w.is("between", open(0, 0), open(1, all-2), open(all-1, 1))
	if b, e := w.l.In(all - 2); b != some(1, all-2) || e != api.OK {
		t.Errorf("In: %v, error %d", b, e)
	}
}
