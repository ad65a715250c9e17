package page

import (
	"bytes"

	"lapidary/api"
)

// Where the parts of a version's bytes begin.
const (
	rowAt     = 0
	xminAt    = 8
	xmaxAt    = 16
	pageAt    = 24
	slotAt    = 28
	headBytes = 30 // behind them lies the Data
)

// The greatest place that has room in a Next's bytes.
const (
	maxNextPage = 1<<16 - 1
	maxNextSlot = 1<<16 - 2
)

// right tells whether t can be a version.
func right(t api.Tuple) bool {
	return rightNumber(t.Row) && rightNumber(t.Xmin) && rightNumber(t.Xmax) && rightNext(t.Next) && len(t.Data) <= api.MaxRow
}

func rightNumber(n uint64) bool {
	return n <= api.MaxXid
}

func rightNext(next api.TID) bool {
	if next == (api.TID{Page: -1, Slot: -1}) {
		return true
	}
	return next.Page >= 0 && next.Page <= maxNextPage && next.Slot >= 0 && next.Slot <= maxNextSlot
}

// version are the bytes of t, which is right.
func version(t api.Tuple) []byte {
	v := make([]byte, headBytes+len(t.Data))
	write(v[rowAt:xminAt], t.Row)
	write(v[xminAt:xmaxAt], t.Xmin)
	stamp(v, t.Xmax, t.Next)
	copy(v[headBytes:], t.Data)
	return v
}

// stamp writes over the Xmax and the Next of a version's bytes.
func stamp(v []byte, xmax uint64, next api.TID) {
	write(v[xmaxAt:pageAt], xmax)
	// One more than the place, so that none is 0.
	write(v[pageAt:slotAt], uint64(next.Page+1))
	write(v[slotAt:headBytes], uint64(next.Slot+1))
}

// tuple is the version of which v are the bytes.
func tuple(v []byte) api.Tuple {
	return api.Tuple{
		Row:  read(v[rowAt:xminAt]),
		Xmin: read(v[xminAt:xmaxAt]),
		Xmax: read(v[xmaxAt:pageAt]),
		Next: api.TID{Page: int(read(v[pageAt:slotAt])) - 1, Slot: int(read(v[slotAt:headBytes])) - 1},
		Data: bytes.Clone(v[headBytes:]),
	}
}

// read is the number of which b are the bytes, the lowest first.
func read(b []byte) uint64 {
	n := uint64(0)
	for i, x := range b {
		n |= uint64(x) << (8 * i)
	}
	return n
}

// write makes b a number's bytes, the lowest first.
func write(b []byte, n uint64) {
	for i := range b {
		b[i] = byte(n >> (8 * i))
	}
}
