package store_test

import (
	"math"
	"slices"
	"testing"

	"lapidary/api"
)

// P12.4, P12.6: Running and Horizon of none that run, of some, of all over.
func TestHorizon(t *testing.T) {
	w := fresh(t, 1)
	is := func(horizon uint64, running ...uint64) {
		t.Helper()
		if w.s.Horizon() != horizon || !slices.Equal(w.s.Running(), running) {
			t.Errorf("Horizon %d, Running %v; want %d, %v", w.s.Horizon(), w.s.Running(), horizon, running)
		}
		w.check(t)
	}
	is(1)
	w.begin(t)
	is(2, 1)
	w.begin(t)
	is(1, 1, 2)
	w.begin(t)
	is(1, 1, 2, 3)
	w.commit(t, 1)
	is(1, 2, 3)
	w.commit(t, 2)
	is(1, 3)
	w.begin(t)
	is(1, 3, 4)
	w.abort(t, 3)
	is(3, 4)
	w.abort(t, 4)
	is(5)
}

// P12.6: Prune of no entry, of tables and indexes that are dead, and of ones that somebody still sees.
func TestPrune(t *testing.T) {
	c := scene(t, 4)
	a, b := c.open[0], c.open[1]
	is := func(want, left int) {
		t.Helper()
		if n := c.prune(t); n != want || c.s.Left() != left {
			t.Errorf("Prune = %d, Left = %d; want %d, %d", n, c.s.Left(), want, left)
		}
		c.check(t)
	}
	is(0, 3)
	// What is made by one that aborted goes at once.
	c.createTable(t, a, "u", columns()...)
	c.createIndex(t, a, "x", "u", "b")
	c.createIndex(t, a, "y", "t", "b")
	c.insert(t, a, "u", num(1), text("a"))
	is(0, 2)
	c.abort(t, a)
	is(3, 3)
	// What was dropped stays while somebody sees it.
	d := c.begin(t)
	c.dropTable(t, d, "t")
	is(0, 3)
	c.commit(t, d)
	is(0, 3)
	if l := c.scan(t, b, "t"); len(l) != 3 {
		t.Error(l)
	}
	wants(t, c.insert(t, b, "t", num(1), text("b's")), api.OK)
	c.commit(t, b)
	is(2, 4)
	is(0, 4)
	if x, y := c.s.Book(); len(x)+len(y)+c.s.Pages(1)+len(c.s.Gather(1, 0))+len(c.s.Used())+len(c.s.Entries()) != 0 {
		t.Error(x, y)
	}
	if n := c.unlink(t, 2, api.TID{}) + c.release(t, 1, api.TID{}); n != 0 {
		t.Error(n)
	}
}

// P12.6: an index that was dropped is kept up while somebody sees it.
func TestPruneIndex(t *testing.T) {
	c := scene(t, 4)
	a, b := c.open[0], c.open[1]
	c.dropIndex(t, a, "i")
	c.commit(t, a)
	if n := c.prune(t); n != 0 {
		t.Error(n)
	}
	wants(t, c.insert(t, b, "t", num(6), text("b's")), api.OK)
	if l, e := c.seek(t, b, 2, nil, nil); len(l) != 4 || e != api.OK {
		t.Error(l, e)
	}
	later := c.begin(t)
	c.insert(t, later, "t", num(7), text("later"))
	if l := c.s.Entries(); !slices.Equal(l, []int{5}) {
		t.Error(l)
	}
	if n := c.prune(t); n != 0 {
		t.Error(n)
	}
	c.commit(t, b)
	if n := c.prune(t); n != 1 || len(c.s.Entries()) != 0 { // later doesn't see it
		t.Error(n)
	}
	c.check(t)
}

// P12.6: Gather of a page that there isn't, of one without a dead version, of one with some.
func TestGather(t *testing.T) {
	c := scene(t, 4)
	a, b := c.open[0], c.open[1]
	at := func(slots ...int) []api.TID {
		var l []api.TID
		for _, slot := range slots {
			l = append(l, api.TID{Slot: slot})
		}
		return l
	}
	is := func(want ...api.TID) {
		t.Helper()
		if l := c.gather(t, 1, 0); !slices.Equal(l, want) {
			t.Errorf("%v; want %v", l, want)
		}
		for _, page := range []int{-1, 1, 2, math.MinInt, math.MaxInt} {
			if l := c.gather(t, 1, page); len(l) != 0 {
				t.Error(l)
			}
		}
		for _, id := range []uint64{0, 2, 3, math.MaxUint64} {
			if l := c.s.Gather(id, 0); len(l) != 0 || c.s.Pages(id) != 0 {
				t.Error(l)
			}
		}
	}
	is()
	l := c.scan(t, a, "t")
	c.update(t, a, "t", l[2], num(8), text("x"))
	c.delete(t, a, "t", l[0])
	c.insert(t, b, "t", num(9), text("y"))
	is()
	c.commit(t, a)
	is() // b sees them
	c.abort(t, b)
	is(at(0, 2, 4)...)
	later := c.begin(t)
	is(at(0, 2, 4)...)
	c.delete(t, later, "t", c.scan(t, later, "t")[0])
	is(at(0, 2, 4)...)
	c.commit(t, later)
	is(at(0, 1, 2, 4)...)
	if c.s.Pages(1) != 1 {
		t.Error(c.s.Pages(1))
	}
}

// P12.6: Unlink and Release of no place, of places without a version, of places whose version isn't
// dead, of dead ones, once, twice, and told twice.
func TestUnlinkRelease(t *testing.T) {
	c := scene(t, 4)
	a, b := c.open[0], c.open[1]
	c.createTable(t, a, "u", columns()...)
	c.createIndex(t, a, "x", "t", "b")
	c.createIndex(t, a, "y", "u", "b")
	c.insert(t, a, "u", num(1), text("other"))
	c.commit(t, a)
	c.delete(t, b, "t", c.scan(t, b, "t")[0])
	c.update(t, b, "t", c.scan(t, b, "t")[1], num(5), text("x"))
	c.commit(t, b)
	runs := c.begin(t)
	c.delete(t, runs, "t", c.scan(t, runs, "t")[0])
	first, second, third, fourth := api.TID{}, api.TID{Slot: 1}, api.TID{Slot: 2}, api.TID{Slot: 3}
	nothing := [][]api.TID{nil, {}, {second}, {fourth}, {second, fourth, second}, {{Slot: 4}}, {{Page: 1}}, {{Page: -1, Slot: -1}}, {{Page: math.MaxInt, Slot: math.MinInt}}}
	is := func(got, want int) {
		t.Helper()
		if got != want {
			t.Errorf("%d; want %d", got, want)
		}
		c.check(t)
	}
	for _, l := range nothing {
		for id := range uint64(8) {
			is(c.unlink(t, id, l...)+c.release(t, id, l...), 0)
		}
	}
	for _, id := range []uint64{0, 1, 3, 6, math.MaxUint64} {
		is(c.unlink(t, id, first, third), 0)
	}
	is(c.unlink(t, 5, first), 0) // of another table
	is(c.release(t, 3, first), 0)
	is(c.release(t, 2, first), 0) // of an index
	is(c.unlink(t, 2, first, second, first), 1)
	is(c.unlink(t, 2, first), 0)
	is(c.unlink(t, 4, fourth, third, first), 2)
	is(c.unlink(t, 2, third), 1)
	is(c.release(t, 1, first, second, third, first, fourth), 2)
	is(c.release(t, 1, first, third), 0)
	for _, l := range append(nothing, []api.TID{first}) {
		is(c.unlink(t, 2, l...)+c.unlink(t, 4, l...)+c.release(t, 1, l...), 0)
	}
	if u, e := c.s.Used(), c.s.Entries(); !slices.Equal(u, []int{2, 1}) || !slices.Equal(e, []int{2, 2, 1}) {
		t.Error(u, e)
	}
}

// P12.5, P12.6: what is released ahead of being unlinked leaves no entry to what comes there next.
func TestReleaseAlone(t *testing.T) {
	c := scene(t, 4)
	a, b := c.open[0], c.open[1]
	c.delete(t, a, "t", c.scan(t, a, "t")[1])
	c.commit(t, a)
	c.abort(t, b)
	if n := c.release(t, 1, api.TID{Slot: 1}); n != 1 {
		t.Error(n)
	}
	c.check(t)
	v := c.begin(t)
	c.insert(t, v, "t", num(9), text("x"))
	k := keyOf(t, num(1))
	if l, _ := c.seek(t, v, 2, k, behind(k)); len(l) != 0 {
		t.Error(l)
	}
	if l, _ := c.seek(t, v, 2, nil, nil); !slices.Equal(ids(l), []uint64{1, 3, 4}) {
		t.Error(l)
	}
	c.check(t)
	if n := c.unlink(t, 2, api.TID{Slot: 1}); n != 0 {
		t.Error(n)
	}
	c.sweep(t)
	c.check(t)
}

// P12.6: an index whose maker aborted isn't kept up: it isn't told of, and has no entry of what comes then.
func TestNotKeptUp(t *testing.T) {
	c := scene(t, 4)
	a, b := c.open[0], c.open[1]
	c.createIndex(t, a, "x", "t", "b")
	c.abort(t, a)
	c.insert(t, b, "t", num(9), text("b's"))
	c.abort(t, b)
	if _, l := c.s.Book(); len(l) != 1 || l[0].Name != "i" || !slices.Equal(c.s.Entries(), []int{4}) {
		t.Error(l)
	}
	if n := c.unlink(t, 3, api.TID{Slot: 3}); n != 0 {
		t.Error(n)
	}
	if n := c.unlink(t, 2, api.TID{Slot: 3}); n != 1 {
		t.Error(n)
	}
	c.check(t)
}

// P12.5, P12.6: behind all that a broom does while nobody runs each row has one version, and each
// index one entry of it.
func TestNothingDeadIsLeft(t *testing.T) {
	d := dice(21)
	for range 30 {
		c := scene(t, 6)
		for range 60 {
			c.chance(t, &d, 3)
		}
		for len(c.open) > 0 {
			xid := c.open[0]
			if d.roll(2) == 0 {
				c.commit(t, xid)
			} else {
				c.abort(t, xid)
			}
			c.stop(xid)
		}
		c.sweep(t)
		c.check(t)
		v := c.begin(t)
		tables, indexes := c.s.Book()
		n := 0
		for i, x := range tables {
			l := c.scan(t, v, x.Name)
			if len(l) != c.s.Used()[i] {
				t.Fatalf("%d versions of %v", c.s.Used()[i], l)
			}
			for _, y := range indexes {
				if y.Table == x.ID {
					if c.s.Entries()[n] != len(l) {
						t.Fatalf("%d entries of %v", c.s.Entries()[n], l)
					}
					n++
				}
			}
		}
	}
}
