package audit_test

import (
	"testing"

	"allotment/api"
	"allotment/audit"
)

// full is a world in which thread 0 has all four blocks that were made of a page of 16 bytes each, from 17408 on.
func full(t *testing.T) (*bench, []uint64) {
	t.Helper()
	b := newBench(t, 6, 6, 2)
	var a []uint64
	for range 4 {
		a = append(a, b.malloc(0, 16))
	}
	b.is(audit.Report{Segs: 1, Pages: 1, Used: 4})
	return b, a
}

// puts posts a block on a page of thread 0's, ahead of another one, past the world.
func (b *bench) puts(addr, head uint64) {
	b.t.Helper()
	p := b.page(0, addr)
	look := *p.Cell()
	_, tag := look.Load()
	if went, e := p.Post(addr, head, tag); !went || e != api.OK {
		b.t.Fatalf("Post(%d, %d): %t, error %d", addr, head, went, e)
	}
}

// P18.2: a page whose lists can't be told is one wrong, however many of them can't; it is still a page, and what is used of it is used, but its blocks can't be met. Other pages are looked at all the same.
func TestListsThatCannotBeTold(t *testing.T) {
	b := newBench(t, 6, 6, 2)
	x := b.malloc(0, 16)
	b.malloc(0, 32)
	y := b.malloc(1, 16)
	b.free(1, b.malloc(0, 16))
	r := audit.Report{Segs: 2, Pages: 3, Used: 4, Free: 8, Posted: 1}
	b.is(r)
	b.Sys().Mem().Store(x+32, 8, greatest)
	r.Free, r.Posted, r.Wrong = 6, 0, 1
	b.is(r)
	b.Sys().Mem().Store(x+16, 8, x+16) // the posted one
	b.is(r)
	b.Sys().Mem().Store(y+16, 8, 0) // the row is over too soon
	r.Free, r.Wrong = 3, 2
	b.is(r)
	b.Sys().Mem().Store(y+16, 8, y+32)
	r.Free, r.Wrong = 6, 1
	b.is(r)
}

// P18.2: a block that is in two of the three rows of a page.
func TestBlockInTwoRows(t *testing.T) {
	b := newBench(t, 6, 6, 2)
	x := b.malloc(0, 16)
	if e := b.page(0, x).Free(x + 48); e != api.OK { // it is in the first row already, as its last one
		t.Fatal(e)
	}
	b.is(audit.Report{Segs: 1, Pages: 1, Free: 4, Wrong: 1})
	b.rows(0, []uint64{x + 16, x + 32, x + 48, x + 48}, nil)

	b = newBench(t, 6, 6, 2)
	x = b.malloc(0, 16)
	b.puts(x+48, 0)
	b.is(audit.Report{Segs: 1, Pages: 1, Used: 1, Free: 3, Posted: 1, Wrong: 1})
	b.rows(0, []uint64{x + 16, x + 32, x + 48}, []uint64{x + 48})

	b, a := full(t)
	b.free(0, a[1])
	b.puts(a[1], 0)
	b.is(audit.Report{Segs: 1, Pages: 1, Used: 3, Free: 1, Posted: 1, Wrong: 1})
	b.rows(0, []uint64{a[1]}, []uint64{a[1]})
}

// P18.2: more blocks are posted than used, since what hangs on one is no block; as many may be.
func TestMorePostedThanUsed(t *testing.T) {
	b := newBench(t, 6, 6, 2)
	x, y := b.malloc(0, 16), b.malloc(0, 16)
	b.puts(x, 60000)
	b.is(audit.Report{Segs: 1, Pages: 1, Used: 2, Free: 2, Posted: 2})
	b.Sys().Mem().Store(60000, 8, 60016)
	b.is(audit.Report{Segs: 1, Pages: 1, Used: 2, Free: 2, Posted: 3, Wrong: 1})
	b.rows(0, []uint64{x + 32, x + 48}, []uint64{x, 60000, 60016})
	b.Sys().Mem().Store(60000, 8, y)
	b.Sys().Mem().Store(y, 8, 0)
	b.is(audit.Report{Segs: 1, Pages: 1, Used: 2, Free: 2, Posted: 3, Wrong: 1})
}

// P18.2: a live block in either of the first two rows of a page, held or not; each is a wrong. One that is posted is none.
func TestLiveBlockThatIsFree(t *testing.T) {
	b, a := full(t)
	p := b.page(0, a[0])
	for i, addr := range []uint64{a[2], a[0], a[3]} {
		if e := p.Free(addr); e != api.OK {
			t.Fatal(e)
		}
		b.is(audit.Report{Segs: 1, Pages: 1, Used: 3 - i, Free: 1 + i, Wrong: 1 + i})
	}
	if addr, e := p.Alloc(); addr != a[3] || e != api.OK { // the other two are in the first row by that
		t.Fatal(addr, e)
	}
	b.is(audit.Report{Segs: 1, Pages: 1, Used: 2, Free: 2, Wrong: 2})
	b.begins(1, api.Call{Kind: api.Free, Addr: a[0]})
	b.begins(0, api.Call{Kind: api.Realloc, Addr: a[2]})
	b.is(audit.Report{Segs: 1, Pages: 1, Used: 2, Free: 2, Wrong: 2})

	b, a = full(t)
	b.puts(a[1], 0)
	b.is(audit.Report{Segs: 1, Pages: 1, Used: 4, Posted: 1})
	b.past(1, api.Call{Kind: api.Free, Addr: a[2]})
	b.is(audit.Report{Segs: 1, Pages: 1, Used: 4, Posted: 2})
	b.past(0, api.Call{Kind: api.Free, Addr: a[3]})
	b.is(audit.Report{Segs: 1, Pages: 1, Used: 3, Free: 1, Posted: 2, Wrong: 1})
}

// P18.2: a live block in the row of another page than its own, since a link leads there.
func TestLiveBlockInAnotherPagesRow(t *testing.T) {
	b := newBench(t, 6, 6, 2)
	x, y := b.malloc(0, 16), b.malloc(1, 2000)
	b.Sys().Mem().Store(x+32, 8, y) // the last but one free block leads there, and that on to none
	b.is(audit.Report{Segs: 2, Pages: 2, Used: 2, Free: 3, Wrong: 1})
	b.rows(0, []uint64{x + 16, x + 32, y}, nil)
}

// P18.2: a live block that has no usable bytes: it was given back past the world, and its page, or its region, is no more.
func TestLiveBlockWithoutBytes(t *testing.T) {
	for _, n := range []uint64{0, 16, 1024, 2000, 15360, 20000} {
		b := newBench(t, 6, 6, 2)
		b.past(0, api.Call{Kind: api.Free, Addr: b.malloc(0, n)})
		b.is(audit.Report{Wrong: 1})
		if audit.Rest(b.World) {
			t.Error("Rest")
		}
	}
	b := newBench(t, 6, 6, 2)
	b.malloc(0, 15000)
	b.malloc(0, 16)
	b.malloc(1, 20000)
	for n, x := range b.Live() {
		b.past(0, api.Call{Kind: api.Free, Addr: x.Addr})
		b.wrongs(n + 1)
	}
	b.is(audit.Report{Wrong: 3})
}

// P18.2: a live block that has fewer usable bytes than its N: something smaller is there now.
func TestLiveBlockWithTooFewBytes(t *testing.T) {
	b := newBench(t, 6, 6, 2)
	x := b.malloc(0, 40000)
	b.past(0, api.Call{Kind: api.Free, Addr: x})
	b.past(1, api.Call{Kind: api.Malloc, N: 20000})
	b.is(audit.Report{Huge: 1, Wrong: 1})

	for _, small := range []struct {
		n     uint64
		wrong int
	}{{600, 0}, {512, 0}, {500, 0}, {385, 0}, {384, 1}, {16, 1}} {
		b := newBench(t, 6, 6, 2)
		x := b.malloc(0, 500)
		b.past(0, api.Call{Kind: api.Free, Addr: x})
		if y := b.past(0, api.Call{Kind: api.Malloc, N: small.n}); y != x {
			t.Fatal(x, y)
		}
		b.wrongs(small.wrong)
	}
}

// P18.2: one block may be wrong by its bytes, and by being free: that is two.
func TestTwoWrongsOfOneBlock(t *testing.T) {
	b := newBench(t, 6, 6, 2)
	x := b.malloc(0, 500)
	b.past(0, api.Call{Kind: api.Free, Addr: x})
	b.past(0, api.Call{Kind: api.Malloc, N: 16})
	b.past(0, api.Call{Kind: api.Malloc, N: 16})
	b.is(audit.Report{Segs: 1, Pages: 1, Used: 2, Free: 2, Wrong: 1})
	b.past(0, api.Call{Kind: api.Free, Addr: x})
	b.is(audit.Report{Segs: 1, Pages: 1, Used: 1, Free: 3, Wrong: 2})
}

// P18.2: wrongs of pages and of blocks are told together: a page with a block in two rows is one, the block that is live, too, another one.
func TestWrongsTogether(t *testing.T) {
	b, a := full(t)
	x := b.malloc(1, 16)
	b.page(0, a[0]).Free(a[0])
	b.puts(a[0], 0)
	b.is(audit.Report{Segs: 2, Pages: 2, Used: 4, Free: 4, Posted: 1, Wrong: 2})
	b.Sys().Mem().Store(x+16, 8, greatest)
	b.is(audit.Report{Segs: 2, Pages: 2, Used: 4, Free: 1, Posted: 1, Wrong: 3})
}

// A page that its segment dropped behind the heap's back is still one that the heap has, but there are no lists of it.
func TestPageThatIsGone(t *testing.T) {
	b := newBench(t, 6, 6, 2)
	x := b.malloc(0, 16)
	b.malloc(0, 32)
	b.page(0, x).Free(x)
	if e := b.segs(0)[0].Drop(1); e != api.OK {
		t.Fatal(e)
	}
	b.is(audit.Report{Segs: 1, Pages: 2, Used: 1, Free: 3, Wrong: 2})
	b.rowsErr(0, api.ErrNil)

	b = newBench(t, 6, 6, 2)
	x, y := b.malloc(0, 16), b.malloc(0, 32)
	b.page(0, x).Free(x)
	b.page(0, y).Free(y)
	g := b.segs(0)[0]
	g.Drop(1)
	g.Drop(2)
	if p, e := g.Big(3); e != api.OK || p.At != 1 { // one that begins where the first one did, and has the second one's slice, too
		t.Fatal(e)
	}
	b.is(audit.Report{Segs: 1, Pages: 2, Wrong: 3})
	b.rowsErr(0, api.ErrNil)
}
