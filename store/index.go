package store

import (
	"slices"

	"lapidary/api"
	"lapidary/book"
	"lapidary/key"
	"lapidary/row"
	"lapidary/snap"
	"lapidary/tree"
)

// index is an index's entries, and whose places they have.
type index struct {
	table uint64
	tree  *tree.Tree
}

// enter puts an entry in, of a version's value and its place.
func (x *index) enter(v api.Value, at api.TID) {
	k, e := key.Bytes(v)
	if e == api.OK {
		x.tree.Insert(tree.Entry{Key: k, At: at})
	}
}

// build is an index of a column, of all versions but those that are dead, which nobody will
// ask it for.
func (s *Store) build(v view, column int) *index {
	x := &index{table: v.id, tree: tree.New()}
	horizon := s.Horizon()
	for _, at := range places(v.heap) {
		t, _ := v.heap.Get(at)
		if l, e := row.Read(v.kinds, t.Data); e == api.OK && !snap.Dead(s.log, t, horizon) {
			x.enter(l[column], at)
		}
	}
	return x
}

// indexed is the table of an index, as a transaction sees both: ErrNone, ErrName, in this order.
// An index that was made while another one dropped its table may be visible where the table isn't,
// and is pruned with the table: were it asked for ahead of that, the pruning could be told.
func (s *Store) indexed(xid, id uint64) (view, api.Errno) {
	if _, runs := s.snapshot(xid); !runs {
		return view{}, api.ErrNone
	}
	is := func(x book.Index) bool { return x.ID == id }
	for _, t := range s.book.Tables() {
		v, e := s.view(xid, t.Name)
		if e == api.OK && slices.ContainsFunc(s.book.Indexes(s.log, v.sees, v.id), is) {
			return v, api.OK
		}
	}
	return view{}, api.ErrName
}
