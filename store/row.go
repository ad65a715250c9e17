package store

import (
	"cmp"
	"slices"

	"lapidary/api"
	"lapidary/row"
	"lapidary/snap"
)

// Scan are the rows of a table that a transaction sees, by rising IDs.
func (s *Store) Scan(xid uint64, table string) ([]Row, api.Errno) {
	v, e := s.view(xid, table)
	if e != api.OK {
		return nil, e
	}
	return s.rows(v, places(v.heap)), api.OK
}

// Seek are the rows with keys from a key on, up to another one, by rising IDs.
func (s *Store) Seek(xid uint64, index uint64, from, to []byte) ([]Row, api.Errno) {
	v, e := s.indexed(xid, index)
	if e != api.OK {
		return nil, e
	}
	var l []api.TID
	for _, entry := range s.indexes[index].tree.Scan(from, to) {
		l = append(l, entry.At)
	}
	return s.rows(v, l), api.OK
}

// Insert puts one row more into a table.
func (s *Store) Insert(xid uint64, table string, l []api.Value) api.Errno {
	v, e := s.view(xid, table)
	if e != api.OK {
		return e
	}
	if _, e = s.put(v, s.last+1, l); e != api.OK {
		return e
	}
	s.last++
	return api.OK
}

// Update ends the version that r tells, and puts another one of its row behind it.
func (s *Store) Update(xid uint64, table string, r Row, l []api.Value) api.Errno {
	v, e := s.view(xid, table)
	if e != api.OK {
		return e
	}
	if e = row.Fits(v.kinds, l); e != api.OK {
		return e
	}
	if e = s.free(v, r); e != api.OK {
		return e
	}
	at, e := s.put(v, r.ID, l)
	if e != api.OK {
		return e
	}
	return v.heap.Stamp(r.At, xid, at)
}

// Delete ends the version that r tells.
func (s *Store) Delete(xid uint64, table string, r Row) api.Errno {
	v, e := s.view(xid, table)
	if e != api.OK {
		return e
	}
	if e = s.free(v, r); e != api.OK {
		return e
	}
	return v.heap.Stamp(r.At, xid, nowhere())
}

// rows are those of which a version is visible at one of these places, by rising IDs.
func (s *Store) rows(v view, l []api.TID) []Row {
	var out []Row
	for _, at := range l {
		t, there := v.heap.Get(at)
		if !there || !snap.Visible(s.log, v.sees, t) {
			continue
		}
		if values, e := row.Read(v.kinds, t.Data); e == api.OK {
			out = append(out, Row{ID: t.Row, At: at, Values: values})
		}
	}
	// Of each row one version at most is visible: the order is the same, wherever they lie.
	slices.SortFunc(out, func(a, b Row) int { return cmp.Compare(a.ID, b.ID) })
	return out
}

// put makes a version of a row, and an entry of it in each index that is kept up: where.
func (s *Store) put(v view, id uint64, l []api.Value) (api.TID, api.Errno) {
	data, e := row.Bytes(v.kinds, l)
	if e != api.OK {
		return api.TID{}, e
	}
	at, e := v.heap.Insert(api.Tuple{Row: id, Xmin: v.sees.Own, Next: nowhere(), Data: data})
	if e != api.OK {
		return api.TID{}, e
	}
	for _, x := range s.book.Keep(s.log, v.id) {
		s.indexes[x.ID].enter(l[x.Column], at)
	}
	return at, api.OK
}

// free tells whether the transaction may end the version that r tells.
func (s *Store) free(v view, r Row) api.Errno {
	t, there := v.heap.Get(r.At)
	if !there || t.Row != r.ID {
		return api.ErrNone
	}
	return snap.Free(s.log, v.sees, t)
}

// nowhere is where the next version lies of one that is the last.
func nowhere() api.TID {
	return api.TID{Page: -1, Slot: -1}
}
