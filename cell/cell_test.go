package cell_test

import (
	"math/rand/v2"
	"slices"
	"testing"

	"allotment/cell"
)

const greatest = ^uint64(0)

// state is what a cell tells of itself.
type state struct {
	word, tag uint64
	asked     int
}

// look tells a cell's state by a copy of it, so that the cell itself isn't asked.
func look(c *cell.Cell) state {
	d := *c
	n := cell.Asked(c)
	word, tag := d.Load()
	return state{word, tag, n}
}

func is(t *testing.T, what string, c *cell.Cell, s state) {
	t.Helper()
	if got := look(c); got != s {
		t.Fatalf("%s: %+v; wanted %+v", what, got, s)
	}
}

func loads(t *testing.T, c *cell.Cell, word, tag uint64) {
	t.Helper()
	if x, y := c.Load(); x != word || y != tag {
		t.Fatalf("Load: %d %d; wanted %d %d", x, y, word, tag)
	}
}

func swaps(t *testing.T, c *cell.Cell, x, was uint64) {
	t.Helper()
	if got := c.Swap(x); got != was {
		t.Fatalf("Swap(%d): %d; wanted %d", x, got, was)
	}
}

func cases(t *testing.T, c *cell.Cell, tag, x uint64, goes bool) {
	t.Helper()
	if got := c.Cas(tag, x); got != goes {
		t.Fatalf("Cas(%d, %d): %t; wanted %t", tag, x, got, goes)
	}
}

func asked(t *testing.T, n int, l ...*cell.Cell) {
	t.Helper()
	if got := cell.Asked(l...); got != n {
		t.Fatalf("Asked of %d cells: %d; wanted %d", len(l), got, n)
	}
}

// words are those at which a word could be cut, or be taken for something else.
func words() []uint64 {
	return []uint64{0, 1, 2, 5, 1<<31 - 1, 1 << 31, 1<<32 - 1, 1 << 32, 1<<32 + 5, 1<<63 - 1, 1 << 63, greatest - 1, greatest}
}

// written is a cell whose tag and word are those, and which was asked as often.
func written(word uint64, tag int) *cell.Cell {
	c := &cell.Cell{}
	for i := range tag {
		if i+1 < tag {
			c.Store(uint64(i) + 77)
		} else {
			c.Store(word)
		}
	}
	return c
}

// The chapter's examples.
func TestExamples(t *testing.T) {
	c := &cell.Cell{}
	loads(t, c, 0, 0)
	c.Store(5)
	loads(t, c, 5, 1)
	cases(t, c, 0, 9, false)
	cases(t, c, 1, 9, true)
	is(t, "the examples", c, state{9, 2, 5})
}

// P8.1 and P8.2: a zero value is a cell: word, tag, and how often it was asked are 0.
func TestZeroValue(t *testing.T) {
	var v cell.Cell
	for _, c := range []*cell.Cell{&v, new(cell.Cell), {}} {
		asked(t, 0, c)
		is(t, "a new cell", c, state{})
		loads(t, c, 0, 0)
		is(t, "a Load", c, state{asked: 1})
	}
	for _, x := range words() {
		c := &cell.Cell{}
		c.Store(x)
		is(t, "a Store", c, state{x, 1, 1})
		c = &cell.Cell{}
		swaps(t, c, x, 0)
		is(t, "a Swap", c, state{x, 1, 1})
		c = &cell.Cell{}
		cases(t, c, 0, x, true)
		is(t, "a Cas of 0", c, state{x, 1, 1})
		if x != 0 {
			c = &cell.Cell{}
			cases(t, c, x, x, false)
			is(t, "a Cas of another tag", c, state{asked: 1})
		}
	}
}

// P8.1: a Load tells the word and the tag as often as it is called; it writes nothing, and is asking.
func TestLoad(t *testing.T) {
	for _, x := range words() {
		c := written(x, 3)
		for i := range 5 {
			is(t, "ahead of a Load", c, state{x, 3, 3 + i})
			loads(t, c, x, 3)
		}
		is(t, "behind five Loads", c, state{x, 3, 8})
	}
}

// P8.1: a Store puts any word, the same one, too, and the tag is one more each time.
func TestStore(t *testing.T) {
	c, n := &cell.Cell{}, 0
	for _, x := range words() {
		for range 3 {
			c.Store(x)
			n++
			is(t, "a Store", c, state{x, uint64(n), n})
		}
	}
	c.Store(0)
	is(t, "a Store of 0 behind the greatest", c, state{0, uint64(n + 1), n + 1})
}

// P8.1: a Swap does as a Store, and tells the word that it was, the same one, too.
func TestSwap(t *testing.T) {
	c, was, n := &cell.Cell{}, uint64(0), 0
	for _, x := range words() {
		for range 3 {
			swaps(t, c, x, was)
			was = x
			n++
			is(t, "a Swap", c, state{x, uint64(n), n})
		}
	}
	swaps(t, c, 0, greatest)
	swaps(t, c, greatest, 0)
	is(t, "Swaps of 0 and the greatest", c, state{greatest, uint64(n + 2), n + 2})
}

// P8.1: a Cas goes with the tag of now, and does as a Store, with the word that is there already, too.
func TestCasThatGoes(t *testing.T) {
	c, n := &cell.Cell{}, 0
	for _, x := range words() {
		for range 3 {
			cases(t, c, uint64(n), x, true)
			n++
			is(t, "a Cas that goes", c, state{x, uint64(n), n})
		}
	}
}

// P8.1: with any other tag, ahead, behind, or what the word is, a Cas doesn't go: word and tag stay, but it was asked.
func TestCasThatDoesNotGo(t *testing.T) {
	for _, tag := range []int{0, 1, 2, 3, 40} {
		for _, word := range words() {
			c := written(word, tag)
			s := look(c)
			others := []uint64{uint64(tag) + 1, uint64(tag) + 2, uint64(tag) - 1, uint64(tag) + 1<<8, uint64(tag) + 1<<16, uint64(tag) + 1<<32, uint64(tag) + 1<<63, greatest - uint64(tag), 0, word}
			for _, other := range others {
				if other == uint64(tag) {
					continue
				}
				for _, x := range []uint64{9, word, 0, greatest} {
					cases(t, c, other, x, false)
					s.asked++
					is(t, "a Cas that doesn't go", c, s)
				}
			}
			cases(t, c, uint64(tag), 9, true)
			is(t, "a Cas behind those", c, state{9, uint64(tag) + 1, s.asked + 1})
		}
	}
}

// P8.1 and P8.2: the tag, and how often it was asked, have room for great numbers.
func TestManyCalls(t *testing.T) {
	const many = 1<<17 + 3
	c := &cell.Cell{}
	for i := range uint64(many) {
		c.Store(i)
		c.Cas(i, 1)
	}
	is(t, "many Stores", c, state{many - 1, many, 2 * many})
	cases(t, c, many&0xffff, 9, false)
	cases(t, c, many, 9, true)
	asked(t, 4*many+4, c, c)
}

// P8.1: a copy is a cell of its own; so a cell can be looked at, and isn't asked.
func TestCopies(t *testing.T) {
	c := written(5, 2)
	d := *c
	d.Store(7)
	loads(t, &d, 7, 3)
	is(t, "the copy", &d, state{7, 3, 4})
	is(t, "the first one", c, state{5, 2, 2})
	c.Store(8)
	is(t, "the copy", &d, state{7, 3, 4})
}

// P8.2: of none 0; of one, of many, of the same one twice, with nil ones anywhere among them: the sum; to ask for it isn't asking.
func TestAsked(t *testing.T) {
	asked(t, 0)
	asked(t, 0, []*cell.Cell{}...)
	a, b, c, none := written(5, 1), written(6, 20), written(7, 300), &cell.Cell{}
	for range 3 {
		asked(t, 0, none)
		asked(t, 0, none, none)
		asked(t, 1, a)
		asked(t, 20, b)
		asked(t, 300, c)
		asked(t, 321, a, b, c)
		asked(t, 321, c, none, a, b)
		asked(t, 40, b, b)
		asked(t, 23, a, b, a, a)
		asked(t, 963, c, a, b, b, a, c, a, b, c)
		asked(t, 0, nil)
		asked(t, 0, nil, nil, nil)
		asked(t, 20, nil, b)
		asked(t, 20, b, nil)
		asked(t, 321, nil, a, nil, nil, b, c, nil)
		asked(t, 2, a, nil, a)
	}
	is(t, "Asked", a, state{5, 1, 1})
	is(t, "Asked", b, state{6, 20, 20})
	is(t, "Asked", c, state{7, 300, 300})
	is(t, "Asked", none, state{})
}

// P8.2: each kind of call counts once, whether it goes or not.
func TestAskedOfEachKind(t *testing.T) {
	c := &cell.Cell{}
	for i, call := range []func(){
		func() { c.Load() },
		func() { c.Store(3) },
		func() { c.Swap(3) },
		func() { c.Cas(2, 3) },
		func() { c.Cas(2, 3) },
		func() { c.Load() },
	} {
		asked(t, i, c)
		call()
		asked(t, i+1, c)
	}
}

// P8.2: a list that is handed in stays, its spare room too.
func TestAskedLeavesTheList(t *testing.T) {
	a, b := written(1, 1), written(2, 2)
	l := []*cell.Cell{b, nil, a, a, b, a}
	was := slices.Clone(l)
	asked(t, 4, l[:4]...)
	if !slices.Equal(l, was) {
		t.Error("the list is another one")
	}
}

// P8.2: a great many.
func TestAskedOfVeryMany(t *testing.T) {
	var l []*cell.Cell
	for i := range 5000 {
		l = append(l, written(1, i%7), nil)
	}
	n := 0
	for i := range 5000 {
		n += i % 7
	}
	asked(t, n, l...)
}

// P8.1 and P8.2: of a nil Cell: zero, and nothing, whatever is handed in.
func TestNil(t *testing.T) {
	var none *cell.Cell
	other := written(5, 2)
	for range 2 {
		loads(t, none, 0, 0)
		for _, x := range words() {
			none.Store(x)
			swaps(t, none, x, 0)
			swaps(t, none, 0, 0)
			for _, tag := range words() {
				cases(t, none, tag, x, false)
			}
			loads(t, none, 0, 0)
		}
		asked(t, 0, none)
		asked(t, 2, none, other, none)
	}
	is(t, "another one", other, state{5, 2, 2})
}

// plain is a cell told in another way: all that was written, and how many calls there were.
type plain struct {
	rows  []uint64
	asked int
}

func (p *plain) state() state {
	return state{p.word(), uint64(len(p.rows)), p.asked}
}

func (p *plain) word() uint64 {
	if len(p.rows) == 0 {
		return 0
	}
	return p.rows[len(p.rows)-1]
}

// call does one call of a cell and of its plain one, and holds what they answer against each other.
func call(t *testing.T, c *cell.Cell, p *plain, kind int, tag, x uint64) {
	t.Helper()
	was, now := p.word(), uint64(len(p.rows))
	p.asked++
	switch kind {
	case 0:
		loads(t, c, was, now)
	case 1:
		c.Store(x)
		p.rows = append(p.rows, x)
	case 2:
		swaps(t, c, x, was)
		p.rows = append(p.rows, x)
	case 3:
		cases(t, c, tag, x, tag == now)
		if tag == now {
			p.rows = append(p.rows, x)
		}
	}
	is(t, "a row of calls", c, p.state())
}

// P8.1: all rows of five calls.
func TestShortRows(t *testing.T) {
	type step struct {
		kind   int
		tag, x uint64
	}
	steps := []step{{kind: 0}, {kind: 1, x: 0}, {kind: 1, x: 5}, {kind: 2, x: 1}, {kind: 2, x: greatest}, {3, 0, 5}, {3, 1, 0}, {3, 1, 2}, {3, 2, 5}, {3, 3, 1}, {3, 5, 4}, {3, greatest, 3}}
	const long = 5
	rows := 1
	for range long {
		rows *= len(steps)
	}
	for row := range rows {
		c, p := &cell.Cell{}, &plain{}
		for range long {
			s := steps[row%len(steps)]
			row /= len(steps)
			call(t, c, p, s.kind, s.tag, s.x)
		}
	}
}

// P8.1 and P8.2: long rows of calls of several cells, which have nothing of one another.
func TestLongRows(t *testing.T) {
	r := rand.New(rand.NewPCG(8, 1))
	for range 50 {
		cells, plains := make([]cell.Cell, 5), make([]plain, 5)
		for range 400 {
			i := r.IntN(5)
			tag := uint64(len(plains[i].rows)) + r.Uint64N(5) - 2
			if r.IntN(2) == 0 {
				tag = uint64(len(plains[i].rows))
			}
			x := words()[r.IntN(len(words()))]
			call(t, &cells[i], &plains[i], r.IntN(4), tag, x)
			n := 0
			var l []*cell.Cell
			for range r.IntN(8) {
				j := r.IntN(6)
				if j == 5 {
					l = append(l, nil)
					continue
				}
				l = append(l, &cells[j])
				n += plains[j].asked
			}
			asked(t, n, l...)
		}
		for i := range cells {
			is(t, "each of several", &cells[i], plains[i].state())
		}
	}
}

// P8.3: a word that went and came back between a Load and a Cas isn't the one that was loaded, whichever calls took it away and brought it.
func TestWordThatCameBack(t *testing.T) {
	writes := []func(c *cell.Cell, x uint64){
		func(c *cell.Cell, x uint64) { c.Store(x) },
		func(c *cell.Cell, x uint64) { c.Swap(x) },
		func(c *cell.Cell, x uint64) {
			_, tag := c.Load()
			cases(t, c, tag, x, true)
		},
	}
	for _, word := range words() {
		for _, away := range writes {
			for _, back := range writes {
				c := written(word, 4)
				_, tag := c.Load()
				away(c, word+1)
				back(c, word)
				if s := look(c); s.word != word || s.tag != tag+2 {
					t.Fatalf("the word that came back: %+v; wanted %d, tag %d", s, word, tag+2)
				}
				cases(t, c, tag, 9, false)
				cases(t, c, tag+1, 9, false)
				cases(t, c, tag+2, 9, true)
			}
			c := written(word, 4)
			_, tag := c.Load()
			away(c, word)
			cases(t, c, tag, 9, false)
			loads(t, c, word, tag+1)
		}
	}
}

// turns hands on all orders in which some threads take their steps, each thread its own ones in a row.
func turns(left []int, row []int, yield func(row []int)) {
	over := true
	for i := range left {
		if left[i] == 0 {
			continue
		}
		over = false
		left[i]--
		turns(left, append(row, i), yield)
		left[i]++
	}
	if over {
		yield(row)
	}
}

// P8.3: four threads load, then cas; in each order that there is, of those that loaded one tag the first one goes and no other, whether they put words of their own or all the same one.
func TestFirstOfThoseThatLoaded(t *testing.T) {
	const threads = 4
	orders := 0
	turns([]int{2, 2, 2, 2}, nil, func(row []int) {
		orders++
		for _, own := range []uint64{0, 1} {
			c := &cell.Cell{}
			var tags [threads]uint64
			var loaded [threads]bool
			went := map[uint64]int{}
			for _, i := range row {
				if !loaded[i] {
					_, tags[i] = c.Load()
					loaded[i] = true
					continue
				}
				cases(t, c, tags[i], own*uint64(i), went[tags[i]] == 0)
				went[tags[i]]++
			}
			is(t, "all behind", c, state{look(c).word, uint64(len(went)), 2 * threads})
		}
	})
	if orders != 2520 {
		t.Errorf("%d orders", orders)
	}
}

// P8.3: threads that add till their Cas goes, in turns of any order, lose nothing; those whose Cas doesn't go were overtaken by one whose did.
func TestNothingIsLost(t *testing.T) {
	r := rand.New(rand.NewPCG(8, 3))
	for range 200 {
		c := &cell.Cell{}
		const threads, goals = 5, 20
		type thread struct {
			word, tag uint64
			loaded    bool
			done      int
		}
		all := make([]thread, threads)
		done, steps, failed := 0, 0, 0
		for done < threads*goals {
			i := r.IntN(threads)
			a := &all[i]
			if a.done == goals {
				continue
			}
			steps++
			if !a.loaded {
				a.word, a.tag = c.Load()
				a.loaded = true
				continue
			}
			a.loaded = false
			// The words go round, so that many come back.
			goes := a.tag == uint64(done)
			cases(t, c, a.tag, (a.word+1)%3, goes)
			if goes {
				a.done++
				done++
			} else {
				failed++
			}
		}
		is(t, "all added", c, state{threads * goals % 3, threads * goals, steps})
		if failed == 0 {
			t.Error("no thread was late")
		}
	}
}
