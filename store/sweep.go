package store

import (
	"lapidary/api"
	"lapidary/book"
	"lapidary/snap"
)

// Horizon is the number below which all that run see what is committed.
func (s *Store) Horizon() uint64 {
	if s == nil {
		return 0
	}
	var all []snap.Snapshot
	for _, xid := range s.log.All() {
		all = append(all, s.open[xid])
	}
	return snap.Horizon(s.log, all)
}

// Prune takes the tables and indexes out that nobody sees any more, with all that is in them:
// how many.
func (s *Store) Prune() int {
	if s == nil {
		return 0
	}
	tables, indexes := s.book.Prune(s.log, s.Horizon())
	for _, id := range tables {
		s.heaps[id].Drop()
		delete(s.heaps, id)
	}
	for _, id := range indexes {
		delete(s.indexes, id)
	}
	return len(tables) + len(indexes)
}

// Gather is where dead versions lie on a page of a table, rising.
func (s *Store) Gather(table uint64, page int) []api.TID {
	if s == nil {
		return nil
	}
	return s.dead(table, s.heaps[table].Page(page))
}

// Unlink takes an index's entries of dead versions at these places out: how many.
func (s *Store) Unlink(index uint64, l []api.TID) int {
	if s == nil {
		return 0
	}
	x, known := s.indexes[index]
	if !known {
		return 0
	}
	return x.tree.Prune(s.dead(x.table, l))
}

// Release frees the dead versions at these places: how many.
func (s *Store) Release(table uint64, l []api.TID) int {
	if s == nil {
		return 0
	}
	dead := s.dead(table, l)
	n := 0
	for _, at := range dead {
		if s.heaps[table].Free(at) == api.OK { // a place may be told twice
			n++
		}
	}
	// An entry that wasn't unlinked goes with its version, or it would be of what comes there next.
	for _, x := range s.indexes {
		if x.table == table {
			x.tree.Prune(dead)
		}
	}
	return n
}

// Pages is how many pages a table has.
func (s *Store) Pages(table uint64) int {
	if s == nil {
		return 0
	}
	return s.heaps[table].Pages()
}

// Book is all tables, by rising IDs, and, by tables, all indexes that are kept up.
func (s *Store) Book() ([]book.Table, []book.Index) {
	if s == nil {
		return nil, nil
	}
	tables := s.book.Tables()
	var indexes []book.Index
	for _, t := range tables {
		indexes = append(indexes, s.book.Keep(s.log, t.ID)...)
	}
	return tables, indexes
}

// dead are those of these places where a version lies that nobody will see any more.
func (s *Store) dead(table uint64, l []api.TID) []api.TID {
	var out []api.TID
	horizon := s.Horizon()
	for _, at := range l {
		t, there := s.heaps[table].Get(at)
		if there && snap.Dead(s.log, t, horizon) {
			out = append(out, at)
		}
	}
	return out
}
