package store_test

import (
	"slices"
	"strconv"
	"testing"

	"lapidary/api"
	"lapidary/store"
)

// script is transactions that run, each with what it saw of t when it began.
type script struct {
	*world
	open []uint64
	saw  map[uint64][]store.Row
}

// start is one more transaction that runs.
func (c *script) start(t *testing.T) {
	t.Helper()
	xid := c.begin(t)
	c.open = append(c.open, xid)
	c.saw[xid], _ = c.s.Scan(xid, "t")
}

// stop takes a transaction from those that run.
func (c *script) stop(xid uint64) {
	c.open = slices.DeleteFunc(c.open, func(x uint64) bool { return x == xid })
	delete(c.saw, xid)
}

// scene is a table with an index and three rows, all committed, and two transactions that run.
func scene(t *testing.T, pages int) *script {
	t.Helper()
	c := &script{world: fresh(t, pages), saw: map[uint64][]store.Row{}}
	one := c.begin(t)
	wants(t, c.createTable(t, one, "t", columns()...), api.OK)
	wants(t, c.createIndex(t, one, "i", "t", "a"), api.OK)
	for n := range int64(3) {
		wants(t, c.insert(t, one, "t", num(n), text("row")), api.OK)
	}
	c.commit(t, one)
	c.start(t)
	c.start(t)
	return c
}

// moves are how many there are at each step of a script.
const moves = 2*11 + 2

// move does one: of the first or of the last transaction that runs, or of the broom.
func (c *script) move(t *testing.T, n int) {
	t.Helper()
	switch {
	case n == moves-1:
		c.prune(t)
		return
	case n == moves-2:
		c.sweep(t)
		return
	}
	if len(c.open) == 0 {
		c.start(t)
	}
	xid := c.open[(len(c.open)-1)*(n%2)]
	// The first row as it was seen at the beginning is what others may have changed since.
	first := store.Row{}
	if l := c.saw[xid]; len(l) > 0 {
		first = l[0]
	}
	switch n / 2 {
	case 0:
		c.insert(t, xid, "t", num(1), text("new"))
	case 1:
		c.update(t, xid, "t", first, num(1), text("changed"))
	case 2:
		if l, _ := c.s.Scan(xid, "t"); len(l) > 0 {
			c.update(t, xid, "t", l[0], num(2-l[0].Values[0].I), api.Value{})
		}
	case 3:
		c.delete(t, xid, "t", first)
	case 4:
		c.createIndex(t, xid, "x", "t", "b")
	case 5:
		c.dropIndex(t, xid, "i")
	case 6:
		c.dropTable(t, xid, "t")
	case 7:
		c.createTable(t, xid, "t", columns()...)
	case 8:
		c.commit(t, xid)
		c.stop(xid)
	case 9:
		c.abort(t, xid)
		c.stop(xid)
	case 10:
		c.start(t)
	}
}

// P12.1 to P12.6, P3, P4, P7: all scripts of three steps, of which all is held against the chapter.
func TestAllScripts(t *testing.T) {
	for n := range moves * moves * moves {
		c := scene(t, 2)
		for range 3 {
			c.move(t, n%moves)
			n /= moves
		}
		c.check(t)
	}
}

// P12.1 to P12.6, P3, P4, P7: scripts of eight steps, not all of them, and held against the chapter
// between any two steps.
func TestSomeScripts(t *testing.T) {
	d := dice(8)
	for range 1500 {
		c := scene(t, 2)
		for range 8 {
			c.move(t, d.roll(moves))
			c.check(t)
		}
	}
}

// P12.1 to P12.6, P3, P4, P7: long scripts of many transactions.
func TestLongScripts(t *testing.T) {
	d := dice(12)
	for round := range 60 {
		c := scene(t, 1+round%5)
		for range 150 {
			c.chance(t, &d, 2+round%4)
			if d.roll(3) == 0 {
				c.check(t)
			}
		}
		c.check(t)
	}
}

// value is a number of few, so that many rows have the same; or none.
func value(d *dice) api.Value {
	if d.roll(8) == 0 {
		return api.Value{}
	}
	return num(int64(d.roll(5)))
}

// word is a text, short or long.
func word(d *dice) api.Value {
	return text("abcdefghijklmnopqrstuvwxyzabcdefghijklmnopqrstuvwxyzabcdefgh"[:d.roll(61)])
}

// some is a row that a transaction saw, or sees, or one that there was.
func (c *script) some(d *dice, xid uint64) store.Row {
	l, _ := c.s.Scan(xid, "t")
	switch d.roll(8) {
	case 0, 1:
		l = c.saw[xid]
	case 2:
		l = told(c.versions)
	}
	if len(l) == 0 {
		return store.Row{}
	}
	r := l[d.roll(len(l))]
	switch d.roll(20) {
	case 0:
		r.ID++
	case 1:
		r.At.Slot++
	case 2:
		r.At.Page--
	}
	return r
}

// chance does one thing of those there are, of the transactions that run, at most so many.
func (c *script) chance(t *testing.T, d *dice, most int) {
	t.Helper()
	if len(c.open) == 0 || len(c.open) < most && d.roll(5) == 0 {
		c.start(t)
		return
	}
	xid := c.open[d.roll(len(c.open))]
	switch n := d.roll(30); {
	case n < 8:
		c.insert(t, xid, "t", value(d), word(d))
	case n < 16:
		c.update(t, xid, "t", c.some(d, xid), value(d), word(d))
	case n < 19:
		c.delete(t, xid, "t", c.some(d, xid))
	case n < 21:
		c.commit(t, xid)
		c.stop(xid)
	case n < 23:
		c.abort(t, xid)
		c.stop(xid)
	case n < 26:
		c.broom(t, d)
	default:
		c.tables(t, d, xid)
	}
}

// tables makes and drops tables and indexes; t, which all is done with, is seldom dropped.
func (c *script) tables(t *testing.T, d *dice, xid uint64) {
	t.Helper()
	switch d.roll(12) {
	case 0, 1:
		c.createIndex(t, xid, "x", "t", []string{"a", "b"}[d.roll(2)])
	case 2, 3:
		c.createIndex(t, xid, "i", "t", "a")
	case 4, 5:
		c.dropIndex(t, xid, []string{"i", "x"}[d.roll(2)])
	case 6, 7:
		c.createTable(t, xid, "u", columns()...)
	case 8:
		c.dropTable(t, xid, "u")
	case 9:
		c.insert(t, xid, "u", value(d), word(d))
	case 10:
		c.createTable(t, xid, "t", columns()...)
	default:
		if d.roll(3) == 0 {
			c.dropTable(t, xid, "t")
		}
	}
}

// broom does what a broom does, or a piece of it, in any order, at any places.
func (c *script) broom(t *testing.T, d *dice) {
	t.Helper()
	if d.roll(2) == 0 {
		c.sweep(t)
		return
	}
	var all []api.TID
	for _, x := range c.versions {
		if d.roll(2) == 0 {
			all = append(all, x.at)
		}
	}
	switch id := uint64(d.roll(12)); d.roll(3) {
	case 0:
		c.prune(t)
	case 1:
		c.unlink(t, id, append(all, all...)...)
	case 2:
		c.release(t, id, append(all, all...)...)
	}
}

// P12.5, P3: what transactions scan that don't do anything is the same from their beginning to their
// end, and by each of their indexes too, whatever others do, and while what is dead is swept out.
func TestStays(t *testing.T) {
	d := dice(5)
	for round := range 60 {
		c := scene(t, 8)
		for range 20 {
			c.chance(t, &d, 4)
		}
		reader := c.begin(t)
		first, e := c.s.Scan(reader, "t")
		indexes := c.s.Indexes(reader, "t")
		for range 60 {
			c.chance(t, &d, 4)
			if now, f := c.s.Scan(reader, "t"); f != e || !slices.EqualFunc(now, first, sameRow) {
				t.Fatalf("round %d: it saw %v, %d, and now %v, %d", round, first, e, now, f)
			}
			if now := c.s.Indexes(reader, "t"); len(now) != len(indexes) {
				t.Fatalf("round %d: indexes %v, and now %v", round, indexes, now)
			}
			for _, x := range indexes {
				if now, f := c.s.Seek(reader, x.ID, nil, nil); f != api.OK || !slices.EqualFunc(now, first, sameRow) {
					t.Fatalf("round %d: by %s %v, %d; it saw %v", round, x.Name, now, f, first)
				}
			}
		}
	}
}

// P12.5, P3: what a transaction did and aborted is seen by nobody; what it committed by those that
// begin then, and by nobody else, whole.
func TestWhole(t *testing.T) {
	for _, end := range []string{"commit", "abort"} {
		c := scene(t, 4)
		a, b := c.open[0], c.open[1]
		before := c.scan(t, b, "t")
		c.update(t, a, "t", before[0], num(9), text("x"))
		c.delete(t, a, "t", before[1])
		c.insert(t, a, "t", num(8), text("y"))
		own := c.scan(t, a, "t")
		if len(own) != 3 || own[0].Values[0] != num(9) || own[1].ID != 3 || own[2].ID != 4 {
			t.Fatal(own)
		}
		during := c.begin(t)
		want := before
		if end == "commit" {
			c.commit(t, a)
			want = own
		} else {
			c.abort(t, a)
		}
		for _, xid := range []uint64{b, during} {
			if l := c.scan(t, xid, "t"); !slices.EqualFunc(l, before, sameRow) {
				t.Errorf("%s: %d sees %v", end, xid, l)
			}
		}
		if l := c.scan(t, c.begin(t), "t"); !slices.EqualFunc(l, want, sameRow) {
			t.Errorf("%s: then %v; want %v", end, l, want)
		}
		c.check(t)
	}
}

// P12.5: no phantoms: rows that others put, or change so that a key fits, aren't told by it.
func TestNoPhantoms(t *testing.T) {
	c := scene(t, 4)
	a, b := c.open[0], c.open[1]
	i := c.s.Indexes(b, "t")[0].ID
	k := keyOf(t, num(1))
	first, _ := c.seek(t, b, i, k, behind(k))
	if len(first) != 1 {
		t.Fatal(first)
	}
	c.insert(t, a, "t", num(1), text("new"))
	c.update(t, a, "t", c.scan(t, a, "t")[0], num(1), text("now"))
	c.update(t, a, "t", c.scan(t, a, "t")[1], num(7), text("gone"))
	if l, _ := c.seek(t, a, i, k, behind(k)); len(l) != 2 || l[0].ID != 1 || l[1].ID != 4 {
		t.Error(l)
	}
	c.commit(t, a)
	if l, _ := c.seek(t, b, i, k, behind(k)); !slices.EqualFunc(l, first, sameRow) {
		t.Error(l)
	}
	c.check(t)
}

// P2: the same calls are answered the same, also when other stores are told others in between.
func TestSameAgain(t *testing.T) {
	run := func(also bool) string {
		d, e := dice(3), dice(4)
		c, other := scene(t, 3), scene(t, 5)
		for range 300 {
			c.chance(t, &d, 3)
			if also {
				other.chance(t, &e, 4)
			}
		}
		out := ""
		for _, n := range append(append(c.s.Used(), c.s.Entries()...), c.s.Left(), int(c.s.Horizon())) {
			out += strconv.Itoa(n) + " "
		}
		return out
	}
	if first := run(false); first != run(true) || first == "" {
		t.Error(first)
	}
}
