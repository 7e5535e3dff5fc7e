package audit_test

import (
	"slices"
	"testing"

	"allotment/api"
	"allotment/audit"
	"allotment/world"
)

// The chapter's example: of four blocks that were made, one is used.
func TestExamples(t *testing.T) {
	b := newBench(t, 4, 4, 1)
	b.malloc(0, 16)
	b.is(audit.Report{Segs: 1, Pages: 1, Used: 1, Free: 3})
	b.rows(0, []uint64{17424, 17440, 17456}, nil)
}

// Of a nil Sys, or World, ErrNil, and false, whatever else is handed in; a World that New didn't make has a nil Sys.
func TestNil(t *testing.T) {
	for _, th := range append(noThreads(), 0, 1, 7) {
		if f, p, e := audit.Blocks(nil, th); len(f) != 0 || len(p) != 0 || e != api.ErrNil {
			t.Errorf("Blocks(nil, %d): %v, %v, error %d", th, f, p, e)
		}
	}
	for _, w := range []*world.World{nil, {}} {
		if r, e := audit.Look(w); r != (audit.Report{}) || e != api.ErrNil {
			t.Errorf("Look: %+v, error %d", r, e)
		}
		if audit.Rest(w) {
			t.Error("Rest")
		}
	}
}

// A system that New didn't make has nothing, not even a region of its own; nothing panics.
func TestEmptySys(t *testing.T) {
	b := newBench(t, 4, 4, 2)
	emptySys(b.World)
	for th := range 8 {
		b.rows(th, nil, nil)
	}
	b.is(audit.Report{})
	if audit.Rest(b.World) {
		t.Error("Rest")
	}
}

// P18.1: layer 14's error of Heap, of what is no thread; threads that the world hasn't have heaps, too.
func TestBlocksErrors(t *testing.T) {
	for threads := 1; threads < 9; threads++ {
		b := newBench(t, 2, 2, threads)
		b.malloc(0, 16)
		for _, th := range noThreads() {
			b.rowsErr(th, api.ErrArg)
		}
		for th := 1; th < 8; th++ {
			b.rows(th, nil, nil)
		}
	}
}

// P18.1: the first two rows of a page, the first one ahead; the third one by itself, the last one posted ahead.
func TestBlocksRows(t *testing.T) {
	b := newBench(t, 4, 4, 2)
	var a []uint64
	for range 7 {
		a = append(a, b.malloc(0, 16))
	}
	b.rows(0, []uint64{17520}, nil)
	b.free(0, a[0], a[3])
	b.rows(0, []uint64{17520, 17456, 17408}, nil)
	b.free(1, a[2], a[5])
	b.rows(0, []uint64{17520, 17456, 17408}, []uint64{17488, 17440})
	b.rows(1, nil, nil)
	b.is(audit.Report{Segs: 1, Pages: 1, Used: 5, Free: 3, Posted: 2})
	b.does(0, api.Call{Kind: api.Collect})
	b.rows(0, []uint64{17520, 17488, 17440, 17456, 17408}, nil)
	b.is(audit.Report{Segs: 1, Pages: 1, Used: 3, Free: 5})
}

// P18.1: page by page, as the heap has them: by classes, blocks alone last, of each the ready ones ahead of the full ones.
func TestBlocksPages(t *testing.T) {
	b := newBench(t, 4, 4, 2)
	big := b.malloc(0, 2000)
	wide := b.malloc(0, 1024)
	small := b.malloc(0, 16)
	at := func(from uint64, n ...uint64) []uint64 {
		var l []uint64
		for _, i := range n {
			l = append(l, from+i)
		}
		return l
	}
	b.rows(0, slices.Concat(at(small, 16, 32, 48), at(wide, 1024, 2048, 3072)), nil)
	b.is(audit.Report{Segs: 1, Pages: 3, Used: 3, Free: 6})
	for range 3 {
		b.malloc(0, 1024)
	}
	next := b.malloc(0, 1024)
	b.rows(0, slices.Concat(at(small, 16, 32, 48), at(next, 1024, 2048, 3072)), nil)
	b.free(1, wide+2048)
	b.rows(0, slices.Concat(at(small, 16, 32, 48), at(next, 1024, 2048, 3072)), at(wide, 2048))
	b.free(0, wide)
	b.rows(0, slices.Concat(at(small, 16, 32, 48), at(next, 1024, 2048, 3072), at(wide, 0)), at(wide, 2048))
	b.free(1, next, small, big)
	b.rows(0, slices.Concat(at(small, 16, 32, 48), at(next, 1024, 2048, 3072), at(wide, 0)), slices.Concat(at(small, 0), at(next, 0), at(wide, 2048), at(big, 0)))
	b.is(audit.Report{Segs: 1, Pages: 4, Used: 6, Free: 7, Posted: 4})
	b.does(0, api.Call{Kind: api.Collect})
	b.rows(0, at(wide, 2048, 0), nil)
	b.is(audit.Report{Segs: 1, Pages: 1, Used: 2, Free: 2})
}

// P18.1: a row that was written over, of any page, and any of the three: that page's error, and nothing beside it, of other pages neither; other threads' blocks are told all the same.
func TestBlocksListErrors(t *testing.T) {
	for _, th := range []int{0, 1} {
		for row := range 3 {
			for _, n := range []uint64{16, 32, 1024} {
				b := newBench(t, 6, 6, 2)
				for _, size := range []uint64{16, 16, 16, 32, 32, 32, 1024, 1024, 1024} {
					b.malloc(0, size)
					b.malloc(1, size)
				}
				l := b.Live()
				free, other, of := uint64(0), 1-th, b.segs(th)[0].Place()
				for _, x := range l {
					if x.N == n && x.Addr/api.Seg == uint64(of) {
						free = x.Addr
					}
				}
				switch row {
				case 0:
					free += n // the fourth one, that is made
				case 1:
					b.free(th, free)
				case 2:
					b.free(other, free)
				}
				was, posted, _ := audit.Blocks(b.Sys(), other)
				for _, link := range []uint64{free, b.Sys().Mem().Size(), 1 << 63, greatest} {
					b.Sys().Mem().Store(free, 8, link)
					b.rowsErr(th, api.ErrRange)
					b.rows(other, was, posted)
					b.wrongs(1)
				}
				b.Sys().Mem().Store(free, 8, 0)
				if _, _, e := audit.Blocks(b.Sys(), th); e != api.OK {
					t.Errorf("thread %d, row %d, size %d: error %d", th, row, n, e)
				}
				b.wrongs(0)
			}
		}
	}
}

// Rule 4: an answer is new memory, its spare room, too.
func TestBlocksNewMemory(t *testing.T) {
	b := newBench(t, 4, 4, 2)
	var a []uint64
	for range 9 {
		a = append(a, b.malloc(0, 16))
	}
	b.free(0, a[1], a[2])
	b.free(1, a[3], a[4])
	free, posted, _ := audit.Blocks(b.Sys(), 0)
	wantFree, wantPosted := slices.Clone(free), slices.Clone(posted)
	for _, l := range [][]uint64{free, posted} {
		for i := range l[:cap(l)] {
			l[:cap(l)][i] = 77
		}
		b.rows(0, wantFree, wantPosted)
	}
	free, posted, _ = audit.Blocks(b.Sys(), 0)
	_ = append(free, 5, 6, 7)
	_ = append(posted, 5, 6, 7)
	if !slices.Equal(free, wantFree) || !slices.Equal(posted, wantPosted) {
		t.Error("two answers share")
	}
}

// P18.2: nothing yet; segments, pages and blocks of several threads are told together.
func TestLook(t *testing.T) {
	b := newBench(t, 8, 8, 3)
	b.is(audit.Report{})
	b.malloc(0, 16)
	b.is(audit.Report{Segs: 1, Pages: 1, Used: 1, Free: 3})
	b.malloc(2, 100)
	b.is(audit.Report{Segs: 2, Pages: 2, Used: 2, Free: 6})
	x := b.malloc(2, 5000)
	b.is(audit.Report{Segs: 2, Pages: 3, Used: 3, Free: 6})
	b.malloc(2, 15000)
	b.is(audit.Report{Segs: 3, Pages: 4, Used: 4, Free: 6})
	y := b.malloc(1, 20000)
	b.is(audit.Report{Segs: 3, Huge: 1, Pages: 4, Used: 4, Free: 6})
	b.free(1, x)
	b.is(audit.Report{Segs: 3, Huge: 1, Pages: 4, Used: 4, Free: 6, Posted: 1})
	b.does(2, api.Call{Kind: api.Collect})
	b.is(audit.Report{Segs: 3, Huge: 1, Pages: 3, Used: 3, Free: 6})
	b.free(2, y)
	b.is(audit.Report{Segs: 3, Pages: 3, Used: 3, Free: 6})
	b.does(2, api.Call{Kind: api.Exit})
	b.is(audit.Report{Segs: 1, Nobody: 2, Pages: 1, Used: 1, Free: 3})
	b.does(1, api.Call{Kind: api.Collect, Force: true})
	b.is(audit.Report{Segs: 3, Pages: 3, Used: 3, Free: 6})
}

// P18.2: heaps are the system's, so those of threads that aren't started, or that the world hasn't, are looked at, too.
func TestLookAtAllHeaps(t *testing.T) {
	for th := range 8 {
		w, _ := world.New(4, 4, 2)
		b := &bench{t, w}
		b.past(th, api.Call{Kind: api.Malloc, N: 16})
		b.is(audit.Report{Segs: 1, Pages: 1, Used: 1, Free: 3})
		b.rows(th, []uint64{17424, 17440, 17456}, nil)
	}
}

// P18.2: a segment that is left is a heap's, then on its way, then nobody's; taken, it is on its way again.
func TestLookAtNobody(t *testing.T) {
	b := newBench(t, 4, 4, 2)
	b.malloc(0, 16)
	b.malloc(0, 15000)
	has := audit.Report{Segs: 2, Pages: 2, Used: 2, Free: 3}
	last := audit.Report{Segs: 1, Pages: 1, Used: 1}
	b.begins(0, api.Call{Kind: api.Exit})
	steps := func(th int, l ...audit.Report) {
		t.Helper()
		for _, r := range l {
			b.is(r)
			b.Step(th)
		}
	}
	way, both := last, last
	both.Nobody = 1
	steps(0, has, has, has, way, way, both, audit.Report{Nobody: 1}, audit.Report{Nobody: 1})
	b.is(audit.Report{Nobody: 2})
	if b.Pending(0) || b.Up(0) {
		t.Fatal("not over")
	}
	b.begins(1, api.Call{Kind: api.Collect, Force: true})
	steps(1, audit.Report{Nobody: 2}, audit.Report{Nobody: 2}, audit.Report{Nobody: 1}, both)
	b.ends(1)
	b.is(has)
}

// P18.2: huge are the regions that begin where a live block does, held or not: none that a segment is in, that somebody else asked for, or whose block isn't handed out yet; and never the first one.
func TestLookAtHuge(t *testing.T) {
	b := newBench(t, 20, 20, 2)
	huge := func(n int) {
		t.Helper()
		if r, e := audit.Look(b.World); r.Huge != n || r.Wrong != 0 || e != api.OK {
			t.Fatalf("Look: %+v, error %d; wanted %d huge", r, e, n)
		}
	}
	x := b.malloc(0, 20000)
	b.malloc(1, 60000)
	huge(2)
	b.malloc(0, 16)
	b.malloc(0, 15360)
	huge(2)
	b.Sys().Arena().Reserve(3)
	huge(2)
	b.begins(0, api.Call{Kind: api.Malloc, N: 17000})
	huge(2)
	b.ends(0)
	huge(3)
	b.begins(0, api.Call{Kind: api.Realloc, Addr: x, N: 40000})
	for b.Pending(0) {
		huge(3)
		b.Step(0)
	}
	huge(3)
	y, _ := b.Result(0)
	b.begins(0, api.Call{Kind: api.Free, Addr: y.Addr})
	huge(3)
	b.ends(0)
	huge(2)
	b.does(0, api.Call{Kind: api.Exit})
	huge(2)

	b = newBench(t, 4, 4, 1)
	b.Sys().Arena().Release(0)
	if at := b.malloc(0, 20000); at != 0 {
		t.Fatal(at)
	}
	huge(0)
	b.malloc(0, 20000)
	huge(1)
}

// P18.3: at rest is what was just made, whoever is up; not with a live block, or a call, or anything given.
func TestRest(t *testing.T) {
	w, _ := world.New(4, 4, 3)
	b := &bench{t, w}
	is := func(want bool) {
		t.Helper()
		if got := audit.Rest(b.World); got != want {
			t.Fatalf("Rest: %t", got)
		}
		if r, e := audit.Look(b.World); want && (r != audit.Report{} || e != api.OK) {
			t.Fatalf("Look: %+v, error %d, at rest", r, e)
		}
	}
	is(true)
	w.Start(0)
	is(true)
	w.Start(1, 2)
	is(true)
	for th := range 3 {
		b.begins(th, api.Call{Kind: api.Collect})
		is(false)
		b.ends(th)
		is(true)
	}
	b.begins(2, api.Call{Kind: api.Malloc, N: greatest})
	is(false)
	b.ends(2)
	is(true)
	for _, n := range []uint64{0, 16, 1024, 2000, 15360, 20000} {
		x := b.malloc(0, n)
		is(false)
		b.begins(0, api.Call{Kind: api.Free, Addr: x})
		is(false)
		b.ends(0)
		is(true)
	}
	at, _ := w.Sys().Arena().Reserve(1)
	is(false)
	w.Sys().Arena().Release(at)
	is(true)
	b.does(1, api.Call{Kind: api.Exit})
	is(true)
	w.Sys().Arena().Release(0)
	is(false)
}

// P18.3: what was given back on somebody's page isn't at rest, till that is gathered; what is nobody's, till it is taken.
func TestRestOfPosted(t *testing.T) {
	b := newBench(t, 4, 4, 3)
	is := func(want bool) {
		t.Helper()
		if got := audit.Rest(b.World); got != want || len(b.Live()) != 0 {
			t.Fatalf("Rest: %t; live %v", got, b.Live())
		}
	}
	b.free(1, b.malloc(0, 16))
	is(false)
	b.is(audit.Report{Segs: 1, Pages: 1, Used: 1, Free: 3, Posted: 1})
	b.does(1, api.Call{Kind: api.Collect, Force: true})
	is(false)
	b.does(0, api.Call{Kind: api.Collect})
	is(true)
	b.free(1, b.malloc(0, 2000))
	is(false)
	b.does(0, api.Call{Kind: api.Exit})
	is(true)
	x := b.malloc(1, 2000)
	b.does(1, api.Call{Kind: api.Exit})
	b.free(2, x)
	is(false)
	b.is(audit.Report{Nobody: 1})
	b.does(2, api.Call{Kind: api.Collect})
	is(false)
	b.does(2, api.Call{Kind: api.Collect, Force: true})
	is(true)
	b.is(audit.Report{})
}

// Two worlds have nothing of one another.
func TestTwoWorlds(t *testing.T) {
	b, o := newBench(t, 4, 4, 2), newBench(t, 4, 4, 2)
	b.malloc(0, 16)
	o.is(audit.Report{})
	o.rows(0, nil, nil)
	if !audit.Rest(o.World) || audit.Rest(b.World) {
		t.Error("Rest")
	}
}
