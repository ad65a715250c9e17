package store

import (
	"lapidary/api"
	"lapidary/book"
	"lapidary/heap"
	"lapidary/snap"
)

// CreateTable makes a table, without a row.
func (s *Store) CreateTable(xid uint64, name string, columns []api.Column) api.Errno {
	sees, runs := s.snapshot(xid)
	if !runs {
		return api.ErrNone
	}
	id, e := s.book.CreateTable(s.log, sees, name, columns)
	if e == api.OK {
		s.heaps[id] = heap.New(s.pool)
	}
	return e
}

// DropTable ends a table, and its indexes.
func (s *Store) DropTable(xid uint64, name string) api.Errno {
	sees, runs := s.snapshot(xid)
	if !runs {
		return api.ErrNone
	}
	_, e := s.book.DropTable(s.log, sees, name)
	return e
}

// CreateIndex makes an index of a table's column, of the versions that somebody may see.
func (s *Store) CreateIndex(xid uint64, name, table, column string) api.Errno {
	sees, runs := s.snapshot(xid)
	if !runs {
		return api.ErrNone
	}
	made, e := s.book.CreateIndex(s.log, sees, name, table, column)
	if e != api.OK {
		return e
	}
	v, e := s.view(xid, table)
	if e != api.OK {
		return e
	}
	s.indexes[made.ID] = s.build(v, made.Column)
	return api.OK
}

// DropIndex ends an index.
func (s *Store) DropIndex(xid uint64, name string) api.Errno {
	sees, runs := s.snapshot(xid)
	if !runs {
		return api.ErrNone
	}
	_, e := s.book.DropIndex(s.log, sees, name)
	return e
}

// Table is the table of a name that a transaction sees.
func (s *Store) Table(xid uint64, name string) (book.Table, bool) {
	sees, runs := s.snapshot(xid)
	if !runs {
		return book.Table{}, false
	}
	return s.book.Table(s.log, sees, name)
}

// Indexes are those that a transaction sees of the table of a name that it sees, by rising IDs.
func (s *Store) Indexes(xid uint64, name string) []book.Index {
	v, e := s.view(xid, name)
	if e != api.OK {
		return nil
	}
	return s.book.Indexes(s.log, v.sees, v.id)
}

// view is a table as a transaction sees it.
type view struct {
	sees  snap.Snapshot
	id    uint64
	kinds []api.Kind // of its columns
	heap  *heap.Heap
}

// view is that of the table of a name: ErrNone, ErrName, in this order.
func (s *Store) view(xid uint64, name string) (view, api.Errno) {
	sees, runs := s.snapshot(xid)
	if !runs {
		return view{}, api.ErrNone
	}
	t, ok := s.book.Table(s.log, sees, name)
	if !ok {
		return view{}, api.ErrName
	}
	v := view{sees: sees, id: t.ID, heap: s.heaps[t.ID]}
	for _, c := range t.Columns {
		v.kinds = append(v.kinds, c.Kind)
	}
	return v, api.OK
}

// places are all those of a heap's versions.
func places(h *heap.Heap) []api.TID {
	var l []api.TID
	for page := range h.Pages() {
		l = append(l, h.Page(page)...)
	}
	return l
}
