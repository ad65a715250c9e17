package book_test

import (
	"math"
	"slices"
	"strings"
	"testing"

	"lapidary/api"
	"lapidary/book"
	"lapidary/clog"
	"lapidary/snap"
)

// snapshots are some of all sorts, right ones and others.
func snapshots(l *clog.Log) []snap.Snapshot {
	all := []snap.Snapshot{{}, {Own: 99}, {Own: math.MaxUint64, Xmin: 5, Xmax: 1}, {Own: 1, Xmax: math.MaxUint64, Running: []uint64{3, 0, 3, math.MaxUint64, 2}}, {Xmin: math.MaxUint64, Running: make([]uint64, 3)}}
	for own := range uint64(6) {
		all = append(all, snap.Take(l, own))
	}
	return all
}

// P11.1, P11.2, P11.3: a nil *Book, whatever else applies.
func TestNil(t *testing.T) {
	var b *book.Book
	l, _ := clog.New(1)
	for _, log := range []*clog.Log{l, nil} {
		for _, s := range snapshots(l) {
			for _, name := range []string{"t", "", "1", strings.Repeat("a", 21)} {
				for _, c := range [][]api.Column{columns(), nil, many(9)} {
					if id, e := b.CreateTable(log, s, name, c); id != 0 || e != api.ErrNone {
						t.Error(id, e)
					}
				}
				if x, e := b.CreateIndex(log, s, name, name, name); x != (book.Index{}) || e != api.ErrNone {
					t.Error(x, e)
				}
				if id, e := b.DropTable(log, s, name); id != 0 || e != api.ErrNone {
					t.Error(id, e)
				}
				if id, e := b.DropIndex(log, s, name); id != 0 || e != api.ErrNone {
					t.Error(id, e)
				}
				if x, ok := b.Table(log, s, name); ok || !sameTable(x, book.Table{}) {
					t.Error(x, ok)
				}
			}
			if len(b.Indexes(log, s, 0))+len(b.Keep(log, 0)) != 0 {
				t.Error("a nil book has indexes")
			}
		}
		if x, y := b.Prune(log, math.MaxUint64); len(x)+len(y)+len(b.Tables()) != 0 {
			t.Error(x, y)
		}
	}
}

// P1: no call panics at any snapshot, log, name or number.
func TestAnything(t *testing.T) {
	for _, nothing := range []bool{false, true} {
		c := scene(t)
		c.dropTable(t, c.open[0], "t")
		log := c.l
		if nothing {
			log = nil
		}
		for _, s := range snapshots(c.l) {
			for _, name := range append(noNames(), "t", "i", "x") {
				c.b.CreateTable(log, s, name, columns())
				c.b.CreateIndex(log, s, name, "t", "a")
				c.b.CreateIndex(log, s, "y", name, name)
				c.b.Table(log, s, name)
				c.b.DropIndex(log, s, name)
				c.b.DropTable(log, s, name)
			}
			for _, n := range []uint64{0, 1, 2, 3, math.MaxUint64} {
				c.b.Indexes(log, s, n)
				c.b.Keep(log, n)
				c.b.Prune(log, n)
			}
		}
		c.b.Tables()
	}
}

// P11.1, P11.2: a nil Log is one where nothing began: each sees its own alone.
func TestNilLog(t *testing.T) {
	b := book.New()
	one, two := snap.Snapshot{Own: 1}, snap.Snapshot{Own: 2}
	if id, e := b.CreateTable(nil, one, "t", columns()); id != 1 || e != api.OK {
		t.Fatal(id, e)
	}
	if _, e := b.CreateTable(nil, one, "t", columns()); e != api.ErrExists {
		t.Error(e)
	}
	if _, e := b.CreateTable(nil, two, "t", columns()); e != api.ErrConflict {
		t.Error(e)
	}
	if _, e := b.DropTable(nil, two, "t"); e != api.ErrName {
		t.Error(e)
	}
	if id, e := b.DropTable(nil, one, "t"); id != 1 || e != api.OK {
		t.Error(id, e)
	}
	if x, y := b.Prune(nil, math.MaxUint64); len(x)+len(y) != 0 || len(b.Tables()) != 1 {
		t.Error(x, y)
	}
}

// P11.2: Xmax 0 is nobody: a snapshot whose Own is 0 dropped nothing of what was never dropped.
func TestOwnNobody(t *testing.T) {
	w := fresh(t)
	wants(t, w.createTable(t, w.begin(t), "t", columns()...), api.OK)
	nobody := w.look(0)
	wants(t, w.createTable(t, nobody, "t", columns()...), api.ErrConflict)
	wants(t, w.createTable(t, nobody, "u", columns()...), api.OK)
	wants(t, w.createTable(t, nobody, "u", columns()...), api.ErrExists)
	wants(t, w.dropTable(t, nobody, "u"), api.OK)
	w.check(t, nobody)
}

// Rules, Memory: what is handed in stays as it is, and isn't kept.
func TestHandedIn(t *testing.T) {
	w := fresh(t)
	w.begin(t)
	v := w.begin(t)
	w.begin(t)
	room := append(columns(), with("spare", api.Bool), with("spare", api.Bool))
	v.s.Running = append(v.s.Running, 77, 78)[:1]
	whole, running := slices.Clone(room), slices.Clone(v.s.Running[:3])
	if id, e := w.b.CreateTable(w.l, v.s, "t", room[:2]); id != 1 || e != api.OK {
		t.Fatal(id, e)
	}
	w.b.CreateTable(w.l, v.s, "u", room)
	w.b.CreateIndex(w.l, v.s, "i", "t", "a")
	w.b.CreateIndex(w.l, v.s, "j", "t", "b")
	w.b.DropIndex(w.l, v.s, "j")
	w.b.Indexes(w.l, v.s, 1)
	w.b.DropTable(w.l, v.s, "u")
	if !slices.Equal(room, whole) || !slices.Equal(v.s.Running[:3], running) {
		t.Error("what was handed in has changed")
	}
	clear(room)
	clear(v.s.Running[:3])
	if x, ok := w.b.Table(w.l, v.s, "t"); !ok || !slices.Equal(x.Columns, columns()) {
		t.Errorf("%+v", x)
	}
	if l := w.b.Tables(); len(l) != 1 || !slices.Equal(l[0].Columns, columns()) {
		t.Errorf("%+v", l)
	}
}

// Rules, Memory: what is told shares nothing with what is told elsewhere, spare room neither.
func TestToldApart(t *testing.T) {
	c := scene(t)
	v := c.open[0]
	for _, name := range []string{"a", "b", "c"} { // lists of odd lengths have spare room
		c.createTable(t, v, name, many(3)...)
		c.createIndex(t, v, name+"x", name, "c1")
		c.createIndex(t, v, name+"y", "t", "a")
	}
	spoil := func(l []api.Column) {
		for i := range l[:cap(l)] {
			l[:cap(l)][i] = with("spoilt", 9)
		}
	}
	tables := c.b.Tables()
	first, _ := c.b.Table(c.l, v.s, "a")
	spoil(tables[1].Columns)
	spoil(first.Columns)
	if !slices.Equal(tables[2].Columns, many(3)) || !slices.Equal(tables[0].Columns, columns()) {
		t.Error("two lists of one answer share")
	}
	c.check(t, v)
	for i := range tables[:cap(tables)] {
		tables[:cap(tables)][i] = book.Table{}
	}
	indexes, kept := c.b.Indexes(c.l, v.s, 1), c.b.Keep(c.l, 1)
	for _, l := range [][]book.Index{indexes, kept} {
		for i := range l[:cap(l)] {
			l[:cap(l)][i] = book.Index{}
		}
		c.check(t, v)
	}
	again := c.b.Tables()
	c.abort(t, v)
	gone, of := c.b.Prune(c.l, 0)
	clear(gone[:cap(gone)])
	clear(of[:cap(of)])
	if len(gone) != 3 || len(of) != 6 || len(again) != 4 || !slices.Equal(again[3].Columns, many(3)) {
		t.Error("what was told has changed")
	}
	if l := c.b.Tables(); len(l) != 1 || !slices.Equal(l[0].Columns, columns()) {
		t.Errorf("%+v", l)
	}
}

// P2: what a call that only tells has told changes nothing of what the next one tells.
func TestTellingChangesNothing(t *testing.T) {
	c := scene(t)
	c.dropTable(t, c.open[0], "t")
	for range 3 {
		c.check(t, c.open...)
	}
}

// Books don't know of each other.
func TestTwoBooks(t *testing.T) {
	c, d := scene(t), scene(t)
	c.dropTable(t, c.open[0], "t")
	wants(t, d.createTable(t, d.open[0], "u", columns()...), api.OK)
	c.check(t, c.open...)
	d.check(t, d.open...)
}
