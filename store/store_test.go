package store_test

import (
	"math"
	"slices"
	"strconv"
	"strings"
	"testing"

	"lapidary/api"
	"lapidary/book"
	"lapidary/key"
	"lapidary/store"
)

// keyOf are a value's bytes.
func keyOf(t *testing.T, l ...api.Value) []byte {
	t.Helper()
	k, e := key.Bytes(l...)
	wants(t, e, api.OK)
	return k
}

func behind(k []byte) []byte {
	return key.Behind(k)
}

// The chapter's example.
func TestExample(t *testing.T) {
	w := fresh(t, 1)
	one := w.begin(t)
	wants(t, w.createTable(t, one, "t", api.Column{Name: "a", Kind: api.Int}), api.OK)
	wants(t, w.insert(t, one, "t", num(7)), api.OK)
	w.commit(t, one)
	two, three := w.begin(t), w.begin(t)
	wants(t, w.update(t, two, "t", w.scan(t, two, "t")[0], num(8)), api.OK)
	l := w.scan(t, three, "t")
	if len(l) != 1 || l[0].Values[0] != num(7) {
		t.Fatal(l)
	}
	wants(t, w.update(t, three, "t", l[0], num(9)), api.ErrConflict)
	w.check(t)
}

// P12.1: New with as many pages as there may be, and with others.
func TestNew(t *testing.T) {
	for _, pages := range []int{math.MinInt, -2, -1, api.MaxPages + 1, math.MaxInt} {
		if s, e := store.New(pages); s != nil || e != api.ErrArg {
			t.Errorf("New(%d) = %v, %d", pages, s, e)
		}
	}
	for _, pages := range []int{0, 1, 2, api.MaxPages - 1, api.MaxPages} {
		w := fresh(t, pages)
		if w.s.Left() != pages || len(w.s.Running())+len(w.s.Used())+len(w.s.Entries()) != 0 || w.s.Horizon() != 1 {
			t.Errorf("New(%d)", pages)
		}
		xid := w.begin(t)
		wants(t, w.createTable(t, xid, "t", columns()...), api.OK)
		want := api.OK
		if pages == 0 {
			want = api.ErrFull
		}
		wants(t, w.insert(t, xid, "t", num(1), text("a")), want)
		w.check(t)
	}
}

// P12.1: transactions from 1 on; each ends once.
func TestTransactions(t *testing.T) {
	w := fresh(t, 1)
	for want := range uint64(5) {
		if xid := w.begin(t); xid != want+1 {
			t.Fatal(xid)
		}
	}
	w.commit(t, 2)
	w.abort(t, 4)
	for _, xid := range []uint64{2, 4, 0, 6, 7, math.MaxUint64} {
		wants(t, w.s.Commit(xid), api.ErrNone)
		wants(t, w.s.Abort(xid), api.ErrNone)
		w.check(t)
	}
	if l := w.s.Running(); !slices.Equal(l, []uint64{1, 3, 5}) {
		t.Error(l)
	}
	w.commit(t, 1, 3)
	w.abort(t, 5)
	if l := w.s.Running(); len(l) != 0 {
		t.Error(l)
	}
	w.check(t)
	if xid := w.begin(t); xid != 6 {
		t.Error(xid)
	}
}

// P12.1, P12.2, P12.3: each call for a transaction that doesn't run: ErrNone ahead of all else.
func TestDoesNotRun(t *testing.T) {
	c := scene(t, 2)
	a, b := c.open[0], c.open[1]
	r := c.scan(t, a, "t")[0]
	i := c.s.Indexes(a, "t")[0].ID
	c.createTable(t, a, "u", columns()...)
	c.insert(t, a, "u", num(1), text(""))
	c.commit(t, a)
	c.abort(t, b)
	for _, xid := range []uint64{0, a, b, 1, 4, 99, api.MaxXid + 1, math.MaxUint64} {
		for _, name := range []string{"t", "u", "i", "new", "", "1"} {
			wants(t, c.s.CreateTable(xid, name, columns()), api.ErrNone)
			wants(t, c.s.CreateTable(xid, name, nil), api.ErrNone)
			wants(t, c.s.DropTable(xid, name), api.ErrNone)
			wants(t, c.s.CreateIndex(xid, name, "t", "a"), api.ErrNone)
			wants(t, c.s.CreateIndex(xid, "x", name, "c"), api.ErrNone)
			wants(t, c.s.DropIndex(xid, name), api.ErrNone)
			wants(t, c.s.Insert(xid, name, []api.Value{num(1), text("")}), api.ErrNone)
			wants(t, c.s.Insert(xid, name, nil), api.ErrNone)
			wants(t, c.s.Update(xid, name, r, []api.Value{num(1), text("")}), api.ErrNone)
			wants(t, c.s.Update(xid, name, store.Row{}, []api.Value{text("")}), api.ErrNone)
			wants(t, c.s.Delete(xid, name, r), api.ErrNone)
			if l, e := c.s.Scan(xid, name); len(l) != 0 || e != api.ErrNone {
				t.Error(l, e)
			}
			if x, ok := c.s.Table(xid, name); ok || !sameTable(x, book.Table{}) {
				t.Error(x, ok)
			}
			if l := c.s.Indexes(xid, name); len(l) != 0 {
				t.Error(l)
			}
		}
		for _, id := range []uint64{0, i, 99} {
			if l, e := c.s.Seek(xid, id, nil, nil); len(l) != 0 || e != api.ErrNone {
				t.Error(l, e)
			}
		}
		wants(t, c.s.Commit(xid), api.ErrNone)
		wants(t, c.s.Abort(xid), api.ErrNone)
	}
	c.check(t)
}

// P12.1, P7: CreateTable's errors are the book's, and nothing comes of them.
func TestCreateTable(t *testing.T) {
	c := scene(t, 2)
	a, b := c.open[0], c.open[1]
	wants(t, c.createTable(t, a, "1", columns()...), api.ErrForm)
	wants(t, c.createTable(t, a, "u"), api.ErrForm)
	wants(t, c.createTable(t, a, "u", api.Column{Name: "a"}), api.ErrForm)
	wants(t, c.createTable(t, a, "t", columns()...), api.ErrExists)
	wants(t, c.createTable(t, a, "i", columns()...), api.ErrExists)
	wants(t, c.createTable(t, a, "u", columns()...), api.OK)
	wants(t, c.createTable(t, a, "u", columns()...), api.ErrExists)
	wants(t, c.createTable(t, b, "u", columns()...), api.ErrConflict)
	wants(t, c.scanError(b, "u"), api.ErrName)
	c.check(t)
	c.commit(t, a)
	// b's snapshot was taken ahead of that.
	wants(t, c.createTable(t, b, "u", columns()...), api.ErrConflict)
	wants(t, c.scanError(b, "u"), api.ErrName)
	wants(t, c.createTable(t, c.begin(t), "u", columns()...), api.ErrExists)
	for n := range api.MaxTables - 2 {
		wants(t, c.createTable(t, b, "n"+strconv.Itoa(n), columns()...), api.OK)
	}
	wants(t, c.createTable(t, b, "x", columns()...), api.ErrFull)
	c.abort(t, b)
	wants(t, c.createTable(t, 4, "x", columns()...), api.ErrFull)
	if n := c.prune(t); n != api.MaxTables-2 {
		t.Error(n)
	}
	wants(t, c.createTable(t, 4, "x", columns()...), api.OK)
	c.check(t)
}

func (w *world) scanError(xid uint64, table string) api.Errno {
	_, e := w.s.Scan(xid, table)
	return e
}

// P12.1, P7: DropTable's and DropIndex's errors are the book's.
func TestDrops(t *testing.T) {
	for _, end := range []string{"runs", "committed", "aborted"} {
		c := scene(t, 2)
		a, b := c.open[0], c.open[1]
		wants(t, c.dropTable(t, a, "u"), api.ErrName)
		wants(t, c.dropTable(t, a, "i"), api.ErrName)
		wants(t, c.dropIndex(t, a, "t"), api.ErrName)
		wants(t, c.dropIndex(t, a, "i"), api.OK)
		wants(t, c.dropIndex(t, a, "i"), api.ErrName)
		want := api.ErrConflict
		switch end {
		case "committed":
			c.commit(t, a)
		case "aborted":
			c.abort(t, a)
			want = api.OK
		}
		c.check(t)
		wants(t, c.dropIndex(t, b, "i"), want)
		if want == api.OK {
			wants(t, c.dropTable(t, b, "t"), api.OK)
			wants(t, c.scanError(b, "t"), api.ErrName)
			wants(t, c.dropTable(t, b, "t"), api.ErrName)
		} else {
			wants(t, c.dropTable(t, b, "t"), api.ErrConflict)
			wants(t, c.scanError(b, "t"), api.OK)
		}
		c.check(t)
	}
}

// P12.1, P7: CreateIndex's errors are the book's, for the transaction's own snapshot.
func TestCreateIndexErrors(t *testing.T) {
	c := scene(t, 2)
	a, b := c.open[0], c.open[1]
	wants(t, c.createIndex(t, a, "X", "none", "none"), api.ErrForm)
	wants(t, c.createIndex(t, a, "x", "none", "a"), api.ErrName)
	wants(t, c.createIndex(t, a, "x", "i", "a"), api.ErrName)
	wants(t, c.createIndex(t, a, "x", "t", "c"), api.ErrName)
	wants(t, c.createIndex(t, a, "i", "t", "b"), api.ErrExists)
	wants(t, c.createIndex(t, a, "t", "t", "b"), api.ErrExists)
	wants(t, c.createIndex(t, a, "x", "t", "b"), api.OK)
	wants(t, c.createIndex(t, b, "x", "t", "b"), api.ErrConflict)
	c.createTable(t, a, "u", columns()...)
	wants(t, c.createIndex(t, b, "y", "u", "a"), api.ErrName)
	c.commit(t, a)
	wants(t, c.createIndex(t, b, "x", "t", "b"), api.ErrConflict)
	wants(t, c.createIndex(t, b, "y", "u", "a"), api.ErrName)
	for n := range api.MaxIndexes - 2 {
		wants(t, c.createIndex(t, b, "n"+strconv.Itoa(n), "t", []string{"a", "b"}[n%2]), api.OK)
	}
	wants(t, c.createIndex(t, b, "y", "t", "a"), api.ErrFull)
	if l := c.s.Entries(); len(l) != api.MaxIndexes || slices.Min(l) != 3 || slices.Max(l) != 3 {
		t.Error(l)
	}
	c.check(t)
}

// entriesOf is how many entries the index of a name has.
func (w *world) entriesOf(t *testing.T, name string) int {
	t.Helper()
	_, indexes := w.s.Book()
	for n, x := range indexes {
		if x.Name == name {
			return w.s.Entries()[n]
		}
	}
	t.Fatalf("no index %s", name)
	return 0
}

// P12.1: an index that is made on a table: how many entries it gets.
func TestIndexOfRows(t *testing.T) {
	c := scene(t, 4)
	a, b := c.open[0], c.open[1]
	made := func(xid uint64, table string, want int) {
		t.Helper()
		wants(t, c.createIndex(t, xid, "x", table, "b"), api.OK)
		if n := c.entriesOf(t, "x"); n != want {
			t.Errorf("%d entries; want %d", n, want)
		}
		c.check(t)
		c.dropIndex(t, xid, "x")
		c.abort(t, xid)
		c.prune(t)
	}
	// No row; then three of one value.
	c.createTable(t, a, "u", columns()...)
	made(a, "u", 0)
	made(c.begin(t), "t", 3)
	// Changed to and fro, deleted, and put: by one that runs; all of these somebody sees.
	l := c.scan(t, b, "t")
	c.update(t, b, "t", l[0], num(5), text("now"))
	c.update(t, b, "t", c.scan(t, b, "t")[0], num(5), text("row"))
	c.delete(t, b, "t", l[1])
	c.insert(t, b, "t", num(6), api.Value{})
	reader := c.begin(t)
	made(c.begin(t), "t", 6)
	// Committed, but one runs who began ahead of that.
	c.commit(t, b)
	made(c.begin(t), "t", 6)
	// But for what there is now, all are dead.
	c.commit(t, reader)
	last := c.begin(t)
	wants(t, c.createIndex(t, last, "x", "t", "b"), api.OK)
	if n := c.entriesOf(t, "x"); n != 3 || c.s.Used()[0] != 6 {
		t.Errorf("%d entries", n)
	}
	dead := c.gather(t, 1, 0)
	if n := c.unlink(t, c.s.Indexes(last, "t")[1].ID, dead...); len(dead) != 3 || n != 0 {
		t.Errorf("%d entries of dead versions", n)
	}
	c.check(t)
}

// P12.1: an index that is made behind a transaction that aborted has no entry of its versions.
func TestIndexOfAborted(t *testing.T) {
	c := scene(t, 4)
	a, b := c.open[0], c.open[1]
	c.insert(t, a, "t", num(1), text("a"))
	c.update(t, a, "t", c.scan(t, a, "t")[0], num(9), text("b"))
	c.abort(t, a)
	wants(t, c.createIndex(t, b, "x", "t", "b"), api.OK)
	if l := c.s.Entries(); !slices.Equal(l, []int{5, 3}) {
		t.Error(l)
	}
	c.check(t)
}

// P12.1: what others put while it runs that made an index is in it too.
func TestIndexOfOthersRows(t *testing.T) {
	c := scene(t, 4)
	a, b := c.open[0], c.open[1]
	wants(t, c.createIndex(t, a, "x", "t", "b"), api.OK)
	wants(t, c.insert(t, b, "t", num(5), text("b's")), api.OK)
	c.commit(t, b)
	c.commit(t, a)
	later := c.begin(t)
	x := c.s.Indexes(later, "t")[1].ID
	k := keyOf(t, text("b's"))
	if l, e := c.seek(t, later, x, k, behind(k)); len(l) != 1 || e != api.OK || l[0].ID != 4 {
		t.Error(l, e)
	}
	c.check(t)
}

// P12.1: Table and Indexes tell what is visible, of the visible table of that name.
func TestVisible(t *testing.T) {
	c := scene(t, 4)
	a, b := c.open[0], c.open[1]
	c.dropTable(t, a, "t")
	c.createTable(t, a, "t", columns()[1:]...)
	c.createIndex(t, a, "x", "t", "b")
	c.createIndex(t, b, "y", "t", "b")
	if x, ok := c.s.Table(a, "t"); !ok || x.ID != 3 || x.Name != "t" || !slices.Equal(x.Columns, columns()[1:]) || x.Xmin != a || x.Xmax != 0 {
		t.Error(x, ok)
	}
	if x, ok := c.s.Table(b, "t"); !ok || x.ID != 1 || x.Xmin != 1 || x.Xmax != a {
		t.Error(x, ok)
	}
	if l := c.s.Indexes(a, "t"); !slices.Equal(l, []book.Index{{ID: 4, Name: "x", Table: 3, Xmin: a}}) {
		t.Error(l)
	}
	if l := c.s.Indexes(b, "t"); len(l) != 2 || l[0].Name != "i" || l[1].Name != "y" {
		t.Error(l)
	}
	for _, name := range []string{"u", "i", "", strings.Repeat("t", 99)} {
		if x, ok := c.s.Table(a, name); ok || !sameTable(x, book.Table{}) || len(c.s.Indexes(a, name)) != 0 {
			t.Error(x, ok)
		}
	}
	c.check(t)
}

// P12.4: Used, Entries and Left, with several tables and indexes, made and dropped.
func TestCounts(t *testing.T) {
	c := scene(t, 5)
	a := c.open[0]
	is := func(used, entries []int, left int) {
		t.Helper()
		if u, e := c.s.Used(), c.s.Entries(); !slices.Equal(u, used) || !slices.Equal(e, entries) || c.s.Left() != left {
			t.Errorf("%v, %v, %d; want %v, %v, %d", u, e, c.s.Left(), used, entries, left)
		}
		c.check(t)
	}
	is([]int{3}, []int{3}, 4)
	c.createTable(t, a, "u", columns()...)
	is([]int{3, 0}, []int{3}, 4)
	c.createIndex(t, a, "x", "u", "b")
	c.createIndex(t, a, "y", "t", "b")
	is([]int{3, 0}, []int{3, 3, 0}, 4)
	c.insert(t, a, "u", num(1), text("a"))
	is([]int{3, 1}, []int{3, 3, 1}, 3)
	c.update(t, a, "u", c.scan(t, a, "u")[0], num(1), text("a"))
	is([]int{3, 2}, []int{3, 3, 2}, 3)
	c.delete(t, a, "u", c.scan(t, a, "u")[0])
	is([]int{3, 2}, []int{3, 3, 2}, 3)
	c.dropIndex(t, a, "i")
	is([]int{3, 2}, []int{3, 3, 2}, 3)
	c.insert(t, a, "t", num(1), text("a"))
	is([]int{4, 2}, []int{4, 4, 2}, 3)
	c.dropTable(t, a, "u")
	is([]int{4, 2}, []int{4, 4, 2}, 3)
	c.abort(t, a)
	is([]int{4, 2}, []int{4}, 3)
	if n := c.prune(t); n != 3 {
		t.Error(n)
	}
	is([]int{4}, []int{4}, 4)
}

// P12.1 to P12.6: a nil *Store, whatever else applies.
func TestNil(t *testing.T) {
	var s *store.Store
	if xid, e := s.Begin(); xid != 0 || e != api.ErrNone {
		t.Error(xid, e)
	}
	for _, xid := range []uint64{0, 1, math.MaxUint64} {
		for _, name := range []string{"t", "", "1"} {
			for _, e := range []api.Errno{
				s.Commit(xid), s.Abort(xid),
				s.CreateTable(xid, name, columns()), s.CreateTable(xid, name, nil), s.DropTable(xid, name),
				s.CreateIndex(xid, name, name, name), s.DropIndex(xid, name),
				s.Insert(xid, name, nil), s.Update(xid, name, store.Row{}, nil), s.Delete(xid, name, store.Row{}),
			} {
				wants(t, e, api.ErrNone)
			}
			if x, ok := s.Table(xid, name); ok || !sameTable(x, book.Table{}) {
				t.Error(x, ok)
			}
			if l, e := s.Scan(xid, name); len(l) != 0 || e != api.ErrNone {
				t.Error(l, e)
			}
			if len(s.Indexes(xid, name)) != 0 {
				t.Error(name)
			}
		}
		if l, e := s.Seek(xid, xid, nil, nil); len(l) != 0 || e != api.ErrNone {
			t.Error(l, e)
		}
		l := []api.TID{{}}
		if len(s.Gather(xid, 0))+s.Unlink(xid, l)+s.Release(xid, l)+s.Pages(xid) != 0 {
			t.Error(xid)
		}
	}
	x, y := s.Book()
	if len(x)+len(y)+len(s.Running())+len(s.Used())+len(s.Entries())+s.Left()+s.Prune() != 0 || s.Horizon() != 0 {
		t.Error("of a nil store")
	}
}

// P1: no call panics at any number, name, place, key or value.
func TestAnything(t *testing.T) {
	c := scene(t, 2)
	a := c.open[0]
	numbers := []int{math.MinInt, -1, 0, 1, 13, 511, 512, math.MaxInt}
	for _, page := range numbers {
		for _, slot := range numbers {
			l := []api.TID{{Page: page, Slot: slot}, {}}
			for _, id := range []uint64{0, 1, 2, 3, math.MaxUint64} {
				r := store.Row{ID: id, At: l[0], Values: []api.Value{{Kind: 77}}}
				c.s.Update(a, "t", r, []api.Value{num(1), text("a")})
				c.s.Delete(a, "t", r)
				c.s.Gather(id, page)
				c.s.Unlink(id, l)
				c.s.Release(id, l)
				c.s.Pages(id)
			}
		}
	}
	for _, v := range []api.Value{{Kind: 77}, {Kind: api.Int, S: "a"}, {B: true}, text("\xff"), text("\x00"), text(strings.Repeat("a", 1<<16))} {
		c.s.Insert(a, "t", []api.Value{v, v})
		c.s.Insert(a, "t", []api.Value{v})
	}
	for _, k := range [][]byte{nil, {}, {0}, {0xff}, make([]byte, 1000)} {
		for _, to := range [][]byte{nil, {}, {0}, {0xff}, make([]byte, 1000)} {
			c.s.Seek(a, 2, k, to)
			c.s.Seek(a, 1, k, to)
			c.s.Seek(a, math.MaxUint64, k, to)
		}
	}
}
