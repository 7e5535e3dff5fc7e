package world

import (
	"allotment/api"
	"allotment/ledger"
)

const leastAlign = 1

// books are what is handed out. They have the ledger by embedding, and the world has them as a field: were it to embed them itself, the ledger's calls would be its own, and whoever has the world could strike by them what is handed out.
type books struct{ ledger.Ledger }

// begin has the block be held that a call is to give back, or to move.
func (b *books) begin(c api.Call) api.Errno {
	if c.Kind == api.Free || c.Kind == api.Realloc {
		return b.Hold(c.Addr)
	}
	return api.OK
}

// end writes down what a call did that is over.
func (b *books) end(c api.Call, r api.Result) {
	well := r.Err == api.OK
	switch {
	case c.Kind == api.Malloc && well:
		b.Add(api.Block{Addr: r.Addr, N: c.N, Align: max(c.Align, leastAlign)})
	case c.Kind == api.Free:
		b.Drop(c.Addr)
	case c.Kind == api.Realloc && well:
		b.Drop(c.Addr)
		b.Add(api.Block{Addr: r.Addr, N: c.N, Align: leastAlign})
	case c.Kind == api.Realloc:
		b.Let(c.Addr)
	}
}

// has says whether bytes are those that were asked for of one block, which nobody holds.
func (b *books) has(addr, n uint64) api.Errno {
	x, e := b.In(addr)
	if e != api.OK {
		return e
	}
	if n > x.Addr+x.N-addr {
		return api.ErrRange
	}
	return api.OK
}
