package book_test

import (
	"slices"
	"testing"

	"lapidary/api"
	"lapidary/book"
	"lapidary/clog"
	"lapidary/snap"
)

// thing is a table or an index as the chapter has it.
type thing struct {
	id         uint64
	name       string
	columns    []api.Column // nil: an index
	table      uint64
	column     int
	xmin, xmax uint64
}

// view is a snapshot, and which transactions were committed when it was taken.
type view struct {
	s         snap.Snapshot
	committed []uint64
}

// world is a log and a book, and by the chapters' words what must be so of them: each doing is
// done in both, and what is answered is held against the words.
type world struct {
	l      *clog.Log
	b      *book.Book
	states []int // of the transactions, from 1 on
	things []thing
	last   uint64
}

func fresh(t *testing.T) *world {
	t.Helper()
	l, e := clog.New(1)
	if e != api.OK {
		t.Fatal(e)
	}
	return &world{l: l, b: book.New()}
}

// begin is a transaction that begins, with its snapshot.
func (w *world) begin(t *testing.T) view {
	t.Helper()
	w.states = append(w.states, clog.Running)
	xid, e := w.l.Begin()
	if xid != uint64(len(w.states)) || e != api.OK {
		t.Fatalf("Begin = %d, %d", xid, e)
	}
	return w.look(xid)
}

// look is a snapshot as one is taken now.
func (w *world) look(own uint64) view {
	v := view{s: snap.Take(w.l, own)}
	for i, state := range w.states {
		if state == clog.Committed {
			v.committed = append(v.committed, uint64(i)+1)
		}
	}
	return v
}

func (w *world) commit(t *testing.T, l ...view) {
	t.Helper()
	for _, v := range l {
		w.states[v.s.Own-1] = clog.Committed
		if e := w.l.Commit(v.s.Own); e != api.OK {
			t.Fatalf("Commit(%d) = %d", v.s.Own, e)
		}
	}
}

func (w *world) abort(t *testing.T, l ...view) {
	t.Helper()
	for _, v := range l {
		w.states[v.s.Own-1] = clog.Aborted
		if e := w.l.Abort(v.s.Own); e != api.OK {
			t.Fatalf("Abort(%d) = %d", v.s.Own, e)
		}
	}
}

func (w *world) state(xid uint64) int {
	if xid == 0 || xid > uint64(len(w.states)) {
		return clog.None
	}
	return w.states[xid-1]
}

// visible: its Xmin is seen, its Xmax isn't, by what was committed when the snapshot was taken.
func (v view) visible(x thing) bool {
	sees := func(xid uint64) bool { return xid == v.s.Own || slices.Contains(v.committed, xid) }
	return sees(x.xmin) && (x.xmax == 0 || !sees(x.xmax))
}

// visibles are the things of one sort that a snapshot sees.
func (w *world) visibles(v view, tables bool) []*thing {
	var l []*thing
	for i, x := range w.things {
		if (x.columns != nil) == tables && v.visible(x) {
			l = append(l, &w.things[i])
		}
	}
	return l
}

// named is the one of a name among things.
func named(l []*thing, name string) *thing {
	for _, x := range l {
		if x.name == name {
			return x
		}
	}
	return nil
}

// taken is the error of one thing more of a name.
func (w *world) taken(v view, name string, tables bool, most int) api.Errno {
	many, alive := 0, false
	for _, x := range w.things {
		if (x.columns != nil) == tables {
			many++
		}
		if x.name == name && w.state(x.xmin) != clog.Aborted && w.state(x.xmax) != clog.Committed && (x.xmax == 0 || x.xmax != v.s.Own) {
			alive = true
		}
	}
	switch {
	case named(w.visibles(v, true), name) != nil, named(w.visibles(v, false), name) != nil:
		return api.ErrExists
	case alive:
		return api.ErrConflict
	case many == most:
		return api.ErrFull
	}
	return api.OK
}

func (w *world) createTable(t *testing.T, v view, name string, columns ...api.Column) api.Errno {
	t.Helper()
	want, e := w.last+1, w.taken(v, name, true, api.MaxTables)
	if e == api.OK {
		w.last++
		w.things = append(w.things, thing{id: want, name: name, columns: slices.Clone(columns), xmin: v.s.Own})
	} else {
		want = 0
	}
	if id, got := w.b.CreateTable(w.l, v.s, name, columns); id != want || got != e {
		t.Fatalf("states %v, things %+v: CreateTable(%+v, %s) = %d, %d; want %d, %d", w.states, w.things, v.s, name, id, got, want, e)
	}
	return e
}

func (w *world) createIndex(t *testing.T, v view, name, table, column string) api.Errno {
	t.Helper()
	var want book.Index
	e := api.ErrName
	if on := named(w.visibles(v, true), table); on != nil {
		if at := slices.IndexFunc(on.columns, func(c api.Column) bool { return c.Name == column }); at >= 0 {
			e = w.taken(v, name, false, api.MaxIndexes)
			want = book.Index{ID: w.last + 1, Name: name, Table: on.id, Column: at, Xmin: v.s.Own}
		}
	}
	if e == api.OK {
		w.last++
		w.things = append(w.things, thing{id: want.ID, name: name, table: want.Table, column: want.Column, xmin: v.s.Own})
	} else {
		want = book.Index{}
	}
	if x, got := w.b.CreateIndex(w.l, v.s, name, table, column); x != want || got != e {
		t.Fatalf("states %v, things %+v: CreateIndex(%+v, %s, %s, %s) = %+v, %d; want %+v, %d", w.states, w.things, v.s, name, table, column, x, got, want, e)
	}
	return e
}

// drop ends a thing of one sort, and of a table its visible indexes.
func (w *world) drop(v view, name string, tables bool) (uint64, api.Errno) {
	x := named(w.visibles(v, tables), name)
	if x == nil {
		return 0, api.ErrName
	}
	l := []*thing{x}
	for _, y := range w.visibles(v, false) {
		if tables && y.table == x.id {
			l = append(l, y)
		}
	}
	for _, y := range l {
		if y.xmax != 0 && w.state(y.xmax) != clog.Aborted && y.xmax != v.s.Own {
			return 0, api.ErrConflict
		}
	}
	for _, y := range l {
		y.xmax = v.s.Own
	}
	return x.id, api.OK
}

func (w *world) dropTable(t *testing.T, v view, name string) api.Errno {
	t.Helper()
	want, e := w.drop(v, name, true)
	if id, got := w.b.DropTable(w.l, v.s, name); id != want || got != e {
		t.Fatalf("states %v, things %+v: DropTable(%+v, %s) = %d, %d; want %d, %d", w.states, w.things, v.s, name, id, got, want, e)
	}
	return e
}

func (w *world) dropIndex(t *testing.T, v view, name string) api.Errno {
	t.Helper()
	want, e := w.drop(v, name, false)
	if id, got := w.b.DropIndex(w.l, v.s, name); id != want || got != e {
		t.Fatalf("states %v, things %+v: DropIndex(%+v, %s) = %d, %d; want %d, %d", w.states, w.things, v.s, name, id, got, want, e)
	}
	return e
}

// prune takes what is dead out of both: how many tables and indexes.
func (w *world) prune(t *testing.T, horizon uint64) (int, int) {
	t.Helper()
	dead := func(x thing) bool {
		return w.state(x.xmin) == clog.Aborted || w.state(x.xmax) == clog.Committed && x.xmax < horizon
	}
	var left []thing
	var tables, indexes []uint64
	for _, x := range w.things {
		of := slices.ContainsFunc(w.things, func(y thing) bool { return y.id == x.table && dead(y) })
		switch {
		case !dead(x) && !of:
			left = append(left, x)
		case x.columns != nil:
			tables = append(tables, x.id)
		default:
			indexes = append(indexes, x.id)
		}
	}
	before := w.things
	w.things = left
	if a, b := w.b.Prune(w.l, horizon); !slices.Equal(a, tables) || !slices.Equal(b, indexes) {
		t.Fatalf("states %v, things %+v: Prune(%d) = %v, %v; want %v, %v", w.states, before, horizon, a, b, tables, indexes)
	}
	return len(tables), len(indexes)
}

// check holds all that the book tells, to these snapshots and to one of nobody's, against the words.
func (w *world) check(t *testing.T, all ...view) {
	t.Helper()
	var want []book.Table
	names := []string{"", "nobody"}
	for _, x := range w.things {
		if names = append(names, x.name); x.columns != nil {
			want = append(want, x.asTable())
		}
	}
	if got := w.b.Tables(); !slices.EqualFunc(got, want, sameTable) {
		t.Fatalf("states %v: Tables = %+v; want %+v", w.states, got, want)
	}
	for id := range w.last + 2 {
		w.checkIndexes(t, "Keep", id, w.b.Keep(w.l, id), func(x thing) bool { return w.state(x.xmin) != clog.Aborted })
	}
	for _, v := range append(slices.Clone(all), w.look(0)) {
		for _, name := range names {
			w.checkTable(t, v, name)
		}
		for id := range w.last + 2 {
			w.checkIndexes(t, "Indexes", id, w.b.Indexes(w.l, v.s, id), v.visible)
		}
	}
}

func (w *world) checkTable(t *testing.T, v view, name string) {
	t.Helper()
	var want book.Table
	x := named(w.visibles(v, true), name)
	if x != nil {
		want = x.asTable()
	}
	if got, ok := w.b.Table(w.l, v.s, name); ok != (x != nil) || !sameTable(got, want) {
		t.Fatalf("states %v, things %+v: Table(%+v, %s) = %+v, %t; want %+v", w.states, w.things, v.s, name, got, ok, want)
	}
}

// checkIndexes holds what a call tells of a table's indexes against those for which it must.
func (w *world) checkIndexes(t *testing.T, call string, table uint64, got []book.Index, must func(thing) bool) {
	t.Helper()
	var want []book.Index
	for _, x := range w.things {
		if x.columns == nil && x.table == table && must(x) {
			want = append(want, book.Index{ID: x.id, Name: x.name, Table: x.table, Column: x.column, Xmin: x.xmin, Xmax: x.xmax})
		}
	}
	if !slices.Equal(got, want) {
		t.Fatalf("states %v, things %+v: %s of %d = %+v; want %+v", w.states, w.things, call, table, got, want)
	}
}

func (x thing) asTable() book.Table {
	return book.Table{ID: x.id, Name: x.name, Columns: x.columns, Xmin: x.xmin, Xmax: x.xmax}
}

func sameTable(a, b book.Table) bool {
	return a.ID == b.ID && a.Name == b.Name && slices.Equal(a.Columns, b.Columns) && a.Xmin == b.Xmin && a.Xmax == b.Xmax
}

// columns are those of a table of two.
func columns() []api.Column {
	return []api.Column{{Name: "a", Kind: api.Int}, {Name: "b", Kind: api.Text}}
}

// dice are numbers by a rule: the same ones in each run.
type dice uint64

// roll is a number of 0 .. n - 1.
func (d *dice) roll(n int) int {
	*d = *d*6364136223846793005 + 1442695040888963407
	return int(uint64(*d) >> 33 % uint64(n))
}
