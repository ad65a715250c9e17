package store_test

import (
	"bytes"
	"cmp"
	"slices"
	"testing"

	"lapidary/api"
	"lapidary/book"
	"lapidary/clog"
	"lapidary/heap"
	"lapidary/key"
	"lapidary/row"
	"lapidary/snap"
	"lapidary/store"
)

// version is one of a row as the chapter has it.
type version struct {
	table      uint64
	row        uint64
	xmin, xmax uint64
	at         api.TID
	values     []api.Value
}

// view is what a transaction saw when it began: a snapshot for the book, and what was committed.
type view struct {
	s         snap.Snapshot
	committed []uint64
}

// world is a store, and by the chapter's words what must be so of it: the layers below, each told
// what happens, and versions in a list. Each doing is done in both, and what is answered is held
// against the words.
type world struct {
	s        *store.Store
	l        *clog.Log
	b        *book.Book
	pool     *heap.Pool
	heaps    map[uint64]*heap.Heap
	views    map[uint64]view // of those that run
	versions []*version
	indexes  map[uint64]book.Index
	entries  map[uint64][]*version // of each index, by its ID
	rows     uint64
}

func fresh(t *testing.T, pages int) *world {
	t.Helper()
	s, e := store.New(pages)
	wants(t, e, api.OK)
	l, e := clog.New(1)
	wants(t, e, api.OK)
	pool, e := heap.NewPool(pages)
	wants(t, e, api.OK)
	return &world{
		s: s, l: l, b: book.New(), pool: pool,
		heaps:   map[uint64]*heap.Heap{},
		views:   map[uint64]view{},
		indexes: map[uint64]book.Index{},
		entries: map[uint64][]*version{},
	}
}

// wants checks an error that a call has answered.
func wants(t *testing.T, got, want api.Errno) {
	t.Helper()
	if got != want {
		t.Fatalf("error %d; want %d", got, want)
	}
}

// begin is a transaction that begins.
func (w *world) begin(t *testing.T) uint64 {
	t.Helper()
	want, e := w.l.Begin()
	xid, got := w.s.Begin()
	if xid != want || got != e {
		t.Fatalf("Begin = %d, %d; want %d, %d", xid, got, want, e)
	}
	v := view{s: snap.Take(w.l, xid)}
	for x := uint64(1); x < xid; x++ {
		if w.l.State(x) == clog.Committed {
			v.committed = append(v.committed, x)
		}
	}
	w.views[xid] = v
	return xid
}

func (w *world) commit(t *testing.T, all ...uint64) {
	t.Helper()
	for _, xid := range all {
		w.ended(t, xid, w.s.Commit(xid), w.l.Commit(xid))
	}
}

func (w *world) abort(t *testing.T, all ...uint64) {
	t.Helper()
	for _, xid := range all {
		w.ended(t, xid, w.s.Abort(xid), w.l.Abort(xid))
	}
}

func (w *world) ended(t *testing.T, xid uint64, got, want api.Errno) {
	t.Helper()
	if got != want {
		t.Fatalf("%d ends: %d; want %d", xid, got, want)
	}
	delete(w.views, xid)
}

// running are those that run, rising.
func (w *world) running() []uint64 {
	var l []uint64
	for xid := range w.views {
		l = append(l, xid)
	}
	slices.Sort(l)
	return l
}

// horizon: the least of those that ran when those began that run; without any the next number.
func (w *world) horizon() uint64 {
	if len(w.views) == 0 {
		return w.l.Next()
	}
	least := w.l.Next()
	for _, v := range w.views {
		least = min(least, v.s.Xmin)
	}
	return least
}

// visible: its Xmin is seen, its Xmax isn't, by what was committed when the transaction began.
func (v view) visible(x *version) bool {
	sees := func(xid uint64) bool { return xid == v.s.Own || slices.Contains(v.committed, xid) }
	return sees(x.xmin) && (x.xmax == 0 || !sees(x.xmax))
}

// dead: its Xmin is aborted, or its Xmax is committed, and below the horizon.
func (w *world) dead(x *version) bool {
	return w.l.State(x.xmin) == clog.Aborted || w.l.State(x.xmax) == clog.Committed && x.xmax < w.horizon()
}

// table is the one of a name that a transaction sees, and its kinds.
func (w *world) table(xid uint64, name string) (book.Table, []api.Kind, api.Errno) {
	v, runs := w.views[xid]
	if !runs {
		return book.Table{}, nil, api.ErrNone
	}
	x, ok := w.b.Table(w.l, v.s, name)
	if !ok {
		return book.Table{}, nil, api.ErrName
	}
	var kinds []api.Kind
	for _, c := range x.Columns {
		kinds = append(kinds, c.Kind)
	}
	return x, kinds, api.OK
}

func (w *world) createTable(t *testing.T, xid uint64, name string, columns ...api.Column) api.Errno {
	t.Helper()
	want := api.ErrNone
	if v, runs := w.views[xid]; runs {
		var id uint64
		if id, want = w.b.CreateTable(w.l, v.s, name, columns); want == api.OK {
			w.heaps[id] = heap.New(w.pool)
		}
	}
	return same(t, "CreateTable", w.s.CreateTable(xid, name, columns), want)
}

func (w *world) dropTable(t *testing.T, xid uint64, name string) api.Errno {
	t.Helper()
	want := api.ErrNone
	if v, runs := w.views[xid]; runs {
		_, want = w.b.DropTable(w.l, v.s, name)
	}
	return same(t, "DropTable", w.s.DropTable(xid, name), want)
}

func (w *world) createIndex(t *testing.T, xid uint64, name, table, column string) api.Errno {
	t.Helper()
	want := api.ErrNone
	if v, runs := w.views[xid]; runs {
		var x book.Index
		if x, want = w.b.CreateIndex(w.l, v.s, name, table, column); want == api.OK {
			w.indexes[x.ID] = x
			for _, y := range w.versions {
				if y.table == x.Table && !w.dead(y) {
					w.entries[x.ID] = append(w.entries[x.ID], y)
				}
			}
		}
	}
	return same(t, "CreateIndex", w.s.CreateIndex(xid, name, table, column), want)
}

func (w *world) dropIndex(t *testing.T, xid uint64, name string) api.Errno {
	t.Helper()
	want := api.ErrNone
	if v, runs := w.views[xid]; runs {
		_, want = w.b.DropIndex(w.l, v.s, name)
	}
	return same(t, "DropIndex", w.s.DropIndex(xid, name), want)
}

// same checks what a call has answered against the words.
func same(t *testing.T, call string, got, want api.Errno) api.Errno {
	t.Helper()
	if got != want {
		t.Fatalf("%s: %d; want %d", call, got, want)
	}
	return got
}

// put is a version more, in the table and in its indexes.
func (w *world) put(t *testing.T, xid, table, id uint64, kinds []api.Kind, l []api.Value) api.Errno {
	t.Helper()
	data, e := row.Bytes(kinds, l)
	wants(t, e, api.OK)
	at, e := w.heaps[table].Insert(api.Tuple{Row: id, Xmin: xid, Next: api.TID{Page: -1, Slot: -1}, Data: data})
	if e != api.OK {
		return e
	}
	x := &version{table: table, row: id, xmin: xid, at: at, values: slices.Clone(l)}
	w.versions = append(w.versions, x)
	for _, y := range w.b.Keep(w.l, table) {
		w.entries[y.ID] = append(w.entries[y.ID], x)
	}
	return api.OK
}

func (w *world) insert(t *testing.T, xid uint64, table string, l ...api.Value) api.Errno {
	t.Helper()
	x, kinds, want := w.table(xid, table)
	if want == api.OK {
		want = row.Fits(kinds, l)
	}
	if want == api.OK {
		want = w.put(t, xid, x.ID, w.rows+1, kinds, l)
	}
	if want == api.OK {
		w.rows++
	}
	return same(t, "Insert", w.s.Insert(xid, table, l), want)
}

// find is the version of a row at a place; nil: there is none.
func (w *world) find(table uint64, r store.Row) *version {
	for _, x := range w.versions {
		if x.table == table && x.row == r.ID && x.at == r.At {
			return x
		}
	}
	return nil
}

// mayEnd: ErrNone: there is no such version; ErrConflict: somebody else was first; ErrState: it isn't visible.
func (w *world) mayEnd(xid uint64, x *version) api.Errno {
	switch {
	case x == nil:
		return api.ErrNone
	case x.xmax != 0 && x.xmax != xid && w.l.State(x.xmax) != clog.Aborted:
		return api.ErrConflict
	case !w.views[xid].visible(x):
		return api.ErrState
	}
	return api.OK
}

func (w *world) update(t *testing.T, xid uint64, table string, r store.Row, l ...api.Value) api.Errno {
	t.Helper()
	x, kinds, want := w.table(xid, table)
	if want == api.OK {
		want = row.Fits(kinds, l)
	}
	y := w.find(x.ID, r)
	if want == api.OK {
		want = w.mayEnd(xid, y)
	}
	if want == api.OK {
		want = w.put(t, xid, x.ID, r.ID, kinds, l)
	}
	if want == api.OK {
		y.xmax = xid
	}
	return same(t, "Update", w.s.Update(xid, table, r, l), want)
}

func (w *world) delete(t *testing.T, xid uint64, table string, r store.Row) api.Errno {
	t.Helper()
	x, _, want := w.table(xid, table)
	y := w.find(x.ID, r)
	if want == api.OK {
		want = w.mayEnd(xid, y)
	}
	if want == api.OK {
		y.xmax = xid
	}
	return same(t, "Delete", w.s.Delete(xid, table, r), want)
}

// prune takes out what the book prunes.
func (w *world) prune(t *testing.T) int {
	t.Helper()
	tables, indexes := w.b.Prune(w.l, w.horizon())
	for _, id := range tables {
		w.heaps[id].Drop()
		delete(w.heaps, id)
		w.versions = slices.DeleteFunc(w.versions, func(x *version) bool { return x.table == id })
	}
	for _, id := range indexes {
		delete(w.indexes, id)
		delete(w.entries, id)
	}
	want := len(tables) + len(indexes)
	if n := w.s.Prune(); n != want {
		t.Fatalf("Prune = %d; want %d", n, want)
	}
	return want
}

// deadAt tells whether a dead version of a table lies at one of these places.
func (w *world) deadAt(table uint64, l []api.TID) func(*version) bool {
	return func(x *version) bool { return x.table == table && w.dead(x) && slices.Contains(l, x.at) }
}

func (w *world) unlink(t *testing.T, index uint64, l ...api.TID) int {
	t.Helper()
	before := len(w.entries[index])
	if x, known := w.indexes[index]; known {
		w.entries[index] = slices.DeleteFunc(w.entries[index], w.deadAt(x.Table, l))
	}
	want := before - len(w.entries[index])
	if n := w.s.Unlink(index, l); n != want {
		t.Fatalf("Unlink(%d, %v) = %d; want %d", index, l, n, want)
	}
	return want
}

func (w *world) release(t *testing.T, table uint64, l ...api.TID) int {
	t.Helper()
	before, goes := len(w.versions), w.deadAt(table, l)
	for _, x := range w.versions {
		if goes(x) {
			wants(t, w.heaps[table].Free(x.at), api.OK)
		}
	}
	for id := range w.entries {
		w.entries[id] = slices.DeleteFunc(w.entries[id], goes)
	}
	w.versions = slices.DeleteFunc(w.versions, goes)
	want := before - len(w.versions)
	if n := w.s.Release(table, l); n != want {
		t.Fatalf("Release(%d, %v) = %d; want %d", table, l, n, want)
	}
	return want
}

// gather holds what is told of a page against the words: where dead versions lie.
func (w *world) gather(t *testing.T, table uint64, page int) []api.TID {
	t.Helper()
	var want []api.TID
	for _, x := range w.versions {
		if x.table == table && x.at.Page == page && w.dead(x) {
			want = append(want, x.at)
		}
	}
	slices.SortFunc(want, func(a, b api.TID) int { return cmp.Compare(a.Slot, b.Slot) })
	if got := w.s.Gather(table, page); !slices.Equal(got, want) {
		t.Fatalf("Gather(%d, %d) = %v; want %v", table, page, got, want)
	}
	return want
}

// sweep is what a broom does: all that is dead goes.
func (w *world) sweep(t *testing.T) {
	t.Helper()
	w.prune(t)
	tables, indexes := w.s.Book()
	for _, x := range tables {
		var l []api.TID
		for page := range w.s.Pages(x.ID) {
			l = append(l, w.gather(t, x.ID, page)...)
		}
		for _, y := range indexes {
			if y.Table == x.ID {
				w.unlink(t, y.ID, l...)
			}
		}
		w.release(t, x.ID, l...)
	}
}

// told are versions as rows, by rising IDs.
func told(l []*version) []store.Row {
	var out []store.Row
	for _, x := range l {
		out = append(out, store.Row{ID: x.row, At: x.at, Values: x.values})
	}
	slices.SortFunc(out, func(a, b store.Row) int { return cmp.Compare(a.ID, b.ID) })
	return out
}

func sameRow(a, b store.Row) bool {
	return a.ID == b.ID && a.At == b.At && slices.Equal(a.Values, b.Values)
}

func sameTable(a, b book.Table) bool {
	return a.ID == b.ID && a.Name == b.Name && slices.Equal(a.Columns, b.Columns) && a.Xmin == b.Xmin && a.Xmax == b.Xmax
}

// scan holds what a transaction is told of a table against the words.
func (w *world) scan(t *testing.T, xid uint64, table string) []store.Row {
	t.Helper()
	x, _, e := w.table(xid, table)
	var want []*version
	for _, y := range w.versions {
		if e == api.OK && y.table == x.ID && w.views[xid].visible(y) {
			want = append(want, y)
		}
	}
	got, f := w.s.Scan(xid, table)
	if f != e || !slices.EqualFunc(got, told(want), sameRow) {
		t.Fatalf("Scan(%d, %s) = %v, %d; want %v, %d", xid, table, got, f, told(want), e)
	}
	return got
}

// seek holds what a transaction is told by an index against the words.
func (w *world) seek(t *testing.T, xid, index uint64, from, to []byte) ([]store.Row, api.Errno) {
	t.Helper()
	v, runs := w.views[xid]
	want, e := []*version(nil), api.ErrNone
	if runs {
		e = api.ErrName
	}
	for _, x := range w.b.Tables() {
		if y, _, f := w.table(xid, x.Name); f != api.OK || y.ID != x.ID {
			continue
		}
		for _, y := range w.b.Indexes(w.l, v.s, x.ID) {
			if y.ID == index {
				e = api.OK
			}
		}
	}
	for _, x := range w.entries[index] {
		k, f := key.Bytes(x.values[w.indexes[index].Column])
		wants(t, f, api.OK)
		if e == api.OK && v.visible(x) && !key.Less(k, from) && (len(to) == 0 || key.Less(k, to)) {
			want = append(want, x)
		}
	}
	got, f := w.s.Seek(xid, index, from, to)
	if f != e || !slices.EqualFunc(got, told(want), sameRow) {
		t.Fatalf("Seek(%d, %d, % x, % x) = %v, %d; want %v, %d", xid, index, from, to, got, f, told(want), e)
	}
	return got, f
}

// names are those of tables that any test gives.
func names() []string {
	return []string{"", "t", "u", "i", "x"}
}

// check holds all that the store tells against the words.
func (w *world) check(t *testing.T) {
	t.Helper()
	var used, entries []int
	var keys [][]byte
	tables := w.b.Tables()
	var indexes []book.Index
	for _, x := range tables {
		n := 0
		for _, y := range w.versions {
			if y.table == x.ID {
				n++
				k, _ := key.Bytes(y.values[0])
				keys = append(keys, k)
			}
		}
		used = append(used, n)
		for _, y := range w.b.Keep(w.l, x.ID) {
			entries = append(entries, len(w.entries[y.ID]))
			indexes = append(indexes, y)
		}
	}
	slices.SortFunc(keys, bytes.Compare)
	keys = slices.CompactFunc(keys, bytes.Equal)
	if got := w.s.Used(); !slices.Equal(got, used) {
		t.Fatalf("Used = %v; want %v", got, used)
	}
	if got := w.s.Entries(); !slices.Equal(got, entries) {
		t.Fatalf("Entries = %v; want %v", got, entries)
	}
	a, b := w.s.Book()
	if !slices.EqualFunc(a, tables, sameTable) || !slices.Equal(b, indexes) {
		t.Fatalf("Book = %v, %v; want %v, %v", a, b, tables, indexes)
	}
	if got := w.s.Running(); !slices.Equal(got, w.running()) {
		t.Fatalf("Running = %v; want %v", got, w.running())
	}
	if got := w.s.Left(); got != w.pool.Left() {
		t.Fatalf("Left = %d; want %d", got, w.pool.Left())
	}
	if got := w.s.Horizon(); got != w.horizon() {
		t.Fatalf("Horizon = %d; want %d", got, w.horizon())
	}
	w.checkPages(t, tables)
	for _, xid := range append(w.running(), 0, w.l.Next()) {
		w.checkSeen(t, xid, keys)
	}
}

// checkPages holds what the store tells of pages against the words.
func (w *world) checkPages(t *testing.T, tables []book.Table) {
	t.Helper()
	for _, x := range tables {
		pages := w.heaps[x.ID].Pages()
		if got := w.s.Pages(x.ID); got != pages {
			t.Fatalf("Pages(%d) = %d; want %d", x.ID, got, pages)
		}
		for page := -1; page <= pages; page++ {
			w.gather(t, x.ID, page)
		}
	}
}

// checkSeen holds what a transaction is told against the words; by some of these keys too.
func (w *world) checkSeen(t *testing.T, xid uint64, keys [][]byte) {
	t.Helper()
	for _, name := range names() {
		x, _, e := w.table(xid, name)
		if got, ok := w.s.Table(xid, name); ok != (e == api.OK) || !sameTable(got, x) {
			t.Fatalf("Table(%d, %s) = %v, %t; want %v", xid, name, got, ok, x)
		}
		var indexes []book.Index
		if e == api.OK {
			indexes = w.b.Indexes(w.l, w.views[xid].s, x.ID)
		}
		if got := w.s.Indexes(xid, name); !slices.Equal(got, indexes) {
			t.Fatalf("Indexes(%d, %s) = %v; want %v", xid, name, got, indexes)
		}
		all := w.scan(t, xid, name)
		for _, y := range indexes {
			if l, e := w.s.Seek(xid, y.ID, nil, nil); e != api.OK || !slices.EqualFunc(l, all, sameRow) {
				t.Fatalf("Seek(%d, %d) = %v, %d; Scan: %v", xid, y.ID, l, e, all)
			}
		}
	}
	for id := range w.indexes {
		w.seek(t, xid, id, nil, nil)
		for i, k := range keys {
			w.seek(t, xid, id, k, key.Behind(k))
			w.seek(t, xid, id, k, keys[(i+1)%len(keys)])
		}
	}
}

// num is a number, text a text.
func num(n int64) api.Value {
	return api.Value{Kind: api.Int, I: n}
}

func text(s string) api.Value {
	return api.Value{Kind: api.Text, S: s}
}

// columns are those of a table of two.
func columns() []api.Column {
	return []api.Column{{Name: "a", Kind: api.Int}, {Name: "b", Kind: api.Text}}
}

// dice are numbers by a rule: the same ones in each run.
type dice uint64

// roll is a number of 0 .. n - 1.
func (d *dice) roll(n int) int {
	*d = *d*6364136223846793005 + 1442695040888963407
	return int(uint64(*d) >> 33 % uint64(n))
}
