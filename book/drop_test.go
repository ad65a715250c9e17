package book_test

import (
	"math"
	"slices"
	"testing"

	"lapidary/api"
)

// P11.2: drops of what isn't visible, or is of the other sort.
func TestDropNames(t *testing.T) {
	c := scene(t)
	a, b := c.open[0], c.open[1]
	for _, name := range append(noNames(), "none", "a", "b", "i") {
		wants(t, c.dropTable(t, a, name), api.ErrName)
	}
	for _, name := range append(noNames(), "none", "a", "b", "t") {
		wants(t, c.dropIndex(t, a, name), api.ErrName)
	}
	c.createTable(t, a, "u", columns()...)
	c.createIndex(t, a, "j", "t", "a")
	wants(t, c.dropTable(t, b, "u"), api.ErrName)
	wants(t, c.dropIndex(t, b, "j"), api.ErrName)
	c.commit(t, a)
	wants(t, c.dropTable(t, b, "u"), api.ErrName)
	wants(t, c.dropIndex(t, b, "j"), api.ErrName)
	c.check(t, a, b)
	v := c.begin(t)
	wants(t, c.dropIndex(t, v, "j"), api.OK)
	wants(t, c.dropIndex(t, v, "j"), api.ErrName)
	wants(t, c.dropTable(t, v, "u"), api.OK)
	wants(t, c.dropTable(t, v, "u"), api.ErrName)
	c.abort(t, v)
	v = c.begin(t)
	wants(t, c.dropTable(t, v, "u"), api.OK)
	c.check(t, a, b, v)
}

// P11.2: a table goes with its visible indexes, and with no others.
func TestDropTable(t *testing.T) {
	c := scene(t)
	a, b := c.open[0], c.open[1]
	c.createIndex(t, b, "j", "t", "a")
	c.createTable(t, a, "u", columns()...)
	c.createIndex(t, a, "k", "u", "a")
	c.createIndex(t, a, "m", "t", "a")
	if id, e := c.b.DropTable(c.l, a.s, "t"); id != 1 || e != api.OK {
		t.Fatal(id, e)
	}
	want := map[string]uint64{"i": 2, "j": 0, "k": 0, "m": 2}
	for _, x := range append(c.b.Keep(c.l, 1), c.b.Keep(c.l, 4)...) {
		if x.Xmax != want[x.Name] {
			t.Errorf("%+v", x)
		}
		delete(want, x.Name)
	}
	if l := c.b.Tables(); len(want) != 0 || len(l) != 2 || l[0].Xmax != 2 || l[1].Xmax != 0 {
		t.Errorf("left %v, tables %+v", want, l)
	}
	if l := c.b.Indexes(c.l, b.s, 1); len(l) != 2 || l[0].Name != "i" || l[1].Name != "j" {
		t.Errorf("%+v", l)
	}
}

// P11.2, P7: of a table one of whose indexes another one has dropped nothing changes.
func TestDropTableIndexTaken(t *testing.T) {
	for _, end := range []string{"runs", "committed", "aborted"} {
		c := scene(t)
		first := c.begin(t)
		c.createIndex(t, first, "h", "t", "a")
		c.createIndex(t, first, "k", "t", "a")
		c.createIndex(t, first, "m", "t", "b")
		c.commit(t, first)
		a, b := c.begin(t), c.begin(t)
		wants(t, c.dropIndex(t, a, "k"), api.OK)
		want := api.ErrConflict
		switch end {
		case "committed":
			c.commit(t, a)
		case "aborted":
			c.abort(t, a)
			want = api.OK
		}
		wants(t, c.dropTable(t, b, "t"), want)
		c.check(t, a, b)
		changed := 0
		for _, x := range c.b.Keep(c.l, 1) {
			if x.Xmax == b.s.Own {
				changed++
			}
		}
		if x := c.b.Tables()[0]; changed > 0 == (want != api.OK) || (x.Xmax == b.s.Own) != (want == api.OK) {
			t.Errorf("%s: %d indexes have changed, %+v", end, changed, x)
		}
	}
}

// P11.2: what s.Own dropped by itself doesn't keep it from the rest; what was dropped and undone neither.
func TestDropTableBehindOwn(t *testing.T) {
	c := scene(t)
	a, b := c.open[0], c.open[1]
	wants(t, c.dropIndex(t, a, "i"), api.OK)
	wants(t, c.createIndex(t, a, "i", "t", "a"), api.OK)
	wants(t, c.dropTable(t, a, "t"), api.OK)
	for _, x := range c.b.Keep(c.l, 1) {
		if x.Xmax != a.s.Own {
			t.Errorf("%+v", x)
		}
	}
	wants(t, c.dropTable(t, b, "t"), api.ErrConflict)
	wants(t, c.dropIndex(t, b, "i"), api.ErrConflict)
	c.abort(t, a)
	wants(t, c.dropIndex(t, b, "i"), api.OK)
	wants(t, c.dropTable(t, b, "t"), api.OK)
	c.check(t, a, b)
}

// P11.2: an index that isn't visible keeps nobody from dropping its table.
func TestDropTableOthersIndex(t *testing.T) {
	c := scene(t)
	a, b := c.open[0], c.open[1]
	wants(t, c.createIndex(t, a, "j", "t", "a"), api.OK)
	wants(t, c.dropIndex(t, a, "j"), api.OK)
	wants(t, c.createIndex(t, a, "k", "t", "a"), api.OK)
	wants(t, c.dropTable(t, b, "t"), api.OK)
	wants(t, c.dropTable(t, a, "t"), api.ErrConflict)
	wants(t, c.dropIndex(t, a, "k"), api.OK)
	c.commit(t, b)
	wants(t, c.dropTable(t, a, "t"), api.ErrConflict)
	c.check(t, a, b)
}

// P11.3: Keep tells the indexes that are alive for somebody, Indexes those that are visible, Tables all.
func TestTold(t *testing.T) {
	c := scene(t)
	a, b := c.open[0], c.open[1]
	c.createIndex(t, a, "j", "t", "a")
	c.createIndex(t, b, "k", "t", "a")
	c.createTable(t, b, "u", columns()...)
	names := func(v view) string {
		out := ""
		for _, x := range c.b.Indexes(c.l, v.s, 1) {
			out += x.Name
		}
		out += "/"
		for _, x := range c.b.Keep(c.l, 1) {
			out += x.Name
		}
		out += "/"
		for _, x := range c.b.Tables() {
			out += x.Name
		}
		return out
	}
	is := func(v view, want string) {
		t.Helper()
		if got := names(v); got != want {
			t.Errorf("%s; want %s", got, want)
		}
		c.check(t, v)
	}
	is(a, "ij/ijk/tu")
	is(b, "ik/ijk/tu")
	c.abort(t, b)
	is(a, "ij/ij/tu")
	c.dropIndex(t, a, "i")
	is(a, "j/ij/tu")
	c.commit(t, a)
	v := c.begin(t)
	is(v, "j/ij/tu")
	c.dropTable(t, v, "t")
	is(v, "/ij/tu")
	c.commit(t, v)
	is(c.begin(t), "/ij/tu")
	is(a, "j/ij/tu")
	for _, id := range []uint64{0, 2, 3, 5, 6, math.MaxUint64} { // an index's, one that isn't, a table's without indexes
		if len(c.b.Keep(c.l, id))+len(c.b.Indexes(c.l, a.s, id)) != 0 {
			t.Errorf("table %d has indexes", id)
		}
	}
}

// P11.3: Prune below, at and above the number by which an entry was dropped.
func TestPruneHorizon(t *testing.T) {
	c := scene(t)
	a, b := c.open[0], c.open[1]
	prune := func(horizon uint64, tables, indexes int) {
		t.Helper()
		if x, y := c.prune(t, horizon); x != tables || y != indexes {
			t.Errorf("Prune(%d): %d, %d; want %d, %d", horizon, x, y, tables, indexes)
		}
		c.check(t, a, b)
	}
	prune(math.MaxUint64, 0, 0)
	c.createTable(t, b, "u", columns()...)
	c.dropIndex(t, b, "i") // 3 drops
	c.dropTable(t, b, "u")
	prune(math.MaxUint64, 0, 0) // it runs
	c.commit(t, b)
	prune(0, 0, 0)
	prune(2, 0, 0)
	prune(3, 0, 0)
	prune(4, 1, 1)
	prune(4, 0, 0)
	v := c.begin(t)
	c.dropTable(t, v, "t")
	c.abort(t, v)
	prune(math.MaxUint64, 0, 0)
	v = c.begin(t)
	c.createIndex(t, v, "j", "t", "a")
	c.createTable(t, v, "w", columns()...)
	c.createIndex(t, v, "k", "w", "a")
	prune(math.MaxUint64, 0, 0)
	c.abort(t, v)
	prune(0, 1, 2)
	if l := c.b.Tables(); len(l) != 1 || l[0].ID != 1 {
		t.Errorf("%+v", l)
	}
}

// P11.3: an index goes with its table, be it alive by itself; all goes; names are free again.
func TestPruneAll(t *testing.T) {
	c := scene(t)
	a, b := c.open[0], c.open[1]
	c.createIndex(t, b, "j", "t", "a")
	c.createTable(t, b, "u", columns()...)
	c.createIndex(t, b, "k", "u", "a")
	c.dropTable(t, a, "t")
	c.commit(t, a, b)
	v := c.begin(t)
	wants(t, c.createTable(t, v, "j", columns()...), api.ErrExists)
	c.dropTable(t, v, "u")
	c.commit(t, v)
	if x, y := c.b.Prune(c.l, 5); !slices.Equal(x, []uint64{1, 4}) || !slices.Equal(y, []uint64{2, 3, 5}) {
		t.Errorf("%v, %v", x, y)
	}
	if x, y := c.b.Prune(c.l, 5); len(x)+len(y)+len(c.b.Tables())+len(c.b.Keep(c.l, 1)) != 0 {
		t.Errorf("%v, %v", x, y)
	}
	c.things = nil
	v = c.begin(t)
	c.check(t, v, a)
	for _, name := range []string{"i", "j", "k", "t", "u"} {
		wants(t, c.createTable(t, v, name, columns()...), api.OK)
	}
	c.check(t, v)
}

// P11.3: of several that go and stay in turns, those that go are told, rising, and the others stay.
func TestPruneSome(t *testing.T) {
	c := scene(t)
	a, b := c.open[0], c.open[1]
	for i, name := range []string{"a", "b", "c", "d", "e", "f"} {
		v := c.open[i%2]
		c.createTable(t, v, name, columns()...)
		c.createIndex(t, v, name+"x", name, "a")
		c.createIndex(t, v, name+"y", name, "b")
	}
	c.abort(t, a)
	c.commit(t, b)
	if x, y := c.prune(t, 1); x != 3 || y != 6 {
		t.Errorf("%d, %d", x, y)
	}
	c.check(t, a, b, c.begin(t))
}
