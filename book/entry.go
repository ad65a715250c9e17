package book

import (
	"slices"

	"lapidary/api"
	"lapidary/clog"
	"lapidary/snap"
)

// entry is what tables and indexes have in common.
type entry struct {
	id   uint64
	name string
	xmin uint64 // who made it
	xmax uint64 // who dropped it; 0: nobody
}

// table is an entry with columns.
type table struct {
	entry
	columns []api.Column
}

// index is an entry of a table's column.
type index struct {
	entry
	table  uint64 // its ID
	column int
}

// version has the entry's stamps: layer 10 asks them of versions alone.
func (x *entry) version() api.Tuple {
	return api.Tuple{Xmin: x.xmin, Xmax: x.xmax}
}

// visible tells whether a snapshot sees who made it, and not who dropped it.
func (x *entry) visible(l *clog.Log, s snap.Snapshot) bool {
	return snap.Visible(l, s, x.version())
}

// named tells whether it is visible by a name.
func (x *entry) named(l *clog.Log, s snap.Snapshot, name string) bool {
	return x.name == name && x.visible(l, s)
}

// made tells whether somebody may see it, now or later: who made it isn't aborted.
func (x *entry) made(l *clog.Log) bool {
	return l.State(x.xmin) != clog.Aborted
}

// alive tells whether it is there, or may come to be so: what becomes of those that run isn't known.
func (x *entry) alive(l *clog.Log) bool {
	return x.made(l) && l.State(x.xmax) != clog.Committed
}

// droppedBy tells whether that transaction dropped it. What nobody dropped, the number 0 didn't either.
func (x *entry) droppedBy(xid uint64) bool {
	return x.xmax != 0 && x.xmax == xid
}

// free tells whether a transaction may drop what it sees: nobody else was first.
func (x *entry) free(l *clog.Log, s snap.Snapshot) bool {
	return snap.Free(l, s, x.version()) == api.OK
}

// dead tells whether nobody will see it any more.
func (x *entry) dead(l *clog.Log, horizon uint64) bool {
	return snap.Dead(l, x.version(), horizon)
}

// tell is the table as it is told, its columns apart from the book's.
func (t *table) tell() Table {
	return Table{ID: t.id, Name: t.name, Columns: slices.Clone(t.columns), Xmin: t.xmin, Xmax: t.xmax}
}

// tell is the index as it is told.
func (x *index) tell() Index {
	return Index{ID: x.id, Name: x.name, Table: x.table, Column: x.column, Xmin: x.xmin, Xmax: x.xmax}
}

// end stamps entries that are visible as dropped by s.Own, all of them or none: the first one's ID.
func end(l *clog.Log, s snap.Snapshot, going ...*entry) (uint64, api.Errno) {
	for _, x := range going {
		if !x.free(l, s) {
			return 0, api.ErrConflict
		}
	}
	for _, x := range going {
		x.xmax = s.Own
	}
	return going[0].id, api.OK
}
