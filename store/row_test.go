package store_test

import (
	"math"
	"slices"
	"strings"
	"testing"

	"lapidary/api"
	"lapidary/store"
)

// P12.2: Scan of a table that is none, that isn't visible, that was dropped, of one without a row.
func TestScanNames(t *testing.T) {
	c := scene(t, 4)
	a, b := c.open[0], c.open[1]
	for _, name := range []string{"u", "i", "", "T", strings.Repeat("t", 99)} {
		wants(t, c.scanError(a, name), api.ErrName)
	}
	c.createTable(t, a, "u", columns()...)
	if l := c.scan(t, a, "u"); len(l) != 0 {
		t.Error(l)
	}
	wants(t, c.scanError(a, "u"), api.OK)
	wants(t, c.scanError(b, "u"), api.ErrName)
	c.dropTable(t, a, "t")
	wants(t, c.scanError(a, "t"), api.ErrName)
	wants(t, c.scanError(b, "t"), api.OK)
	c.createTable(t, a, "t", columns()...)
	if l := c.scan(t, a, "t"); len(l) != 0 {
		t.Error(l)
	}
	if l := c.scan(t, b, "t"); len(l) != 3 {
		t.Error(l)
	}
	c.commit(t, a)
	wants(t, c.scanError(b, "u"), api.ErrName)
	if l := c.scan(t, b, "t"); len(l) != 3 {
		t.Error(l)
	}
	c.check(t)
}

// ids are those of rows.
func ids(l []store.Row) []uint64 {
	var out []uint64
	for _, r := range l {
		out = append(out, r.ID)
	}
	return out
}

// P12.2: rows by rising IDs, also where freed places were taken again; IDs go on behind errors and aborts.
func TestOrder(t *testing.T) {
	c := scene(t, 2)
	a, b := c.open[0], c.open[1]
	l := c.scan(t, a, "t")
	c.delete(t, a, "t", l[0])
	c.update(t, a, "t", l[1], num(8), text("moved"))
	c.commit(t, a)
	c.insert(t, b, "t", num(4), text("b's"))
	c.insert(t, b, "t", text("wrong"), text(""))
	c.abort(t, b)
	c.sweep(t)
	v := c.begin(t)
	c.insert(t, v, "t", num(9), text("in the first one's place"))
	l = c.scan(t, v, "t")
	if !slices.Equal(ids(l), []uint64{2, 3, 5}) || l[2].At != (api.TID{}) || l[0].At != (api.TID{Slot: 3}) {
		t.Fatal(l)
	}
	i := c.s.Indexes(v, "t")[0].ID
	if l, _ := c.seek(t, v, i, nil, nil); !slices.Equal(ids(l), []uint64{2, 3, 5}) {
		t.Error(l)
	}
	c.check(t)
}

// P12.2: IDs are of all tables together.
func TestIDs(t *testing.T) {
	c := scene(t, 3)
	a, b := c.open[0], c.open[1]
	c.createTable(t, a, "u", columns()...)
	c.insert(t, a, "u", num(1), text("a"))
	c.insert(t, b, "t", num(1), text("a"))
	c.insert(t, a, "u", num(1), text("a"))
	c.update(t, a, "u", c.scan(t, a, "u")[0], num(2), text("b"))
	if l := c.scan(t, a, "u"); !slices.Equal(ids(l), []uint64{4, 6}) {
		t.Error(l)
	}
	if l := c.scan(t, b, "t"); !slices.Equal(ids(l), []uint64{1, 2, 3, 5}) {
		t.Error(l)
	}
}

// P12.2: Seek of an index that is none, that isn't visible, that was dropped.
func TestSeekNames(t *testing.T) {
	c := scene(t, 4)
	a, b := c.open[0], c.open[1]
	is := func(xid, id uint64, want api.Errno) {
		t.Helper()
		if l, e := c.seek(t, xid, id, nil, nil); e != want || e != api.OK && len(l) != 0 {
			t.Errorf("Seek(%d, %d) = %v, %d; want %d", xid, id, l, e, want)
		}
	}
	for _, id := range []uint64{0, 1, 3, 99, math.MaxUint64} {
		is(a, id, api.ErrName)
	}
	c.createIndex(t, a, "x", "t", "b")
	is(a, 3, api.OK)
	is(b, 3, api.ErrName)
	c.dropIndex(t, a, "i")
	is(a, 2, api.ErrName)
	is(b, 2, api.OK)
	c.commit(t, a)
	is(b, 3, api.ErrName)
	is(b, 2, api.OK)
	later := c.begin(t)
	is(later, 2, api.ErrName)
	is(later, 3, api.OK)
	c.dropTable(t, later, "t")
	is(later, 3, api.ErrName)
	c.abort(t, b, later)
	c.prune(t)
	last := c.begin(t)
	is(last, 2, api.ErrName)
	is(last, 3, api.OK)
	c.check(t)
}

// P12.2, P12.6: an index that was made while another one dropped its table is asked for like one that
// isn't visible by whoever doesn't see the table, be there another one of its name or not: ahead of the
// pruning and behind it.
func TestSeekOfDroppedTable(t *testing.T) {
	for _, again := range []bool{false, true} {
		c := scene(t, 4)
		a, b := c.open[0], c.open[1]
		wants(t, c.dropTable(t, a, "t"), api.OK)
		if again {
			wants(t, c.createTable(t, a, "t", columns()...), api.OK)
			wants(t, c.insert(t, a, "t", num(1), text("new")), api.OK)
		}
		wants(t, c.createIndex(t, b, "x", "t", "b"), api.OK)
		x := c.s.Indexes(b, "t")[1].ID
		c.commit(t, a, b)
		v := c.begin(t)
		for range 2 {
			if l, e := c.seek(t, v, x, nil, nil); len(l) != 0 || e != api.ErrName {
				t.Error(l, e)
			}
			c.check(t)
			c.prune(t)
		}
	}
}

// P12.2: Seek from and to nothing, a key, the key behind it, keys in the wrong order.
func TestSeekKeys(t *testing.T) {
	c := scene(t, 4)
	a := c.open[0]
	c.insert(t, a, "t", num(1), text("b"))
	c.insert(t, a, "t", api.Value{}, api.Value{})
	c.insert(t, a, "t", num(math.MinInt64), text(""))
	c.createIndex(t, a, "x", "t", "b")
	is := func(index uint64, from, to []byte, want ...uint64) {
		t.Helper()
		if l, e := c.seek(t, a, index, from, to); e != api.OK || !slices.Equal(ids(l), want) {
			t.Errorf("Seek(%d, % x, % x) = %v, %d; want %v", index, from, to, l, e, want)
		}
	}
	k := func(v api.Value) []byte { return keyOf(t, v) }
	is(2, nil, nil, 1, 2, 3, 4, 5, 6)
	is(2, []byte{}, []byte{}, 1, 2, 3, 4, 5, 6)
	is(2, k(num(1)), behind(k(num(1))), 2, 4)
	is(2, k(num(1)), nil, 2, 3, 4)
	is(2, nil, k(num(1)), 1, 5, 6)
	is(2, k(num(0)), k(num(2)), 1, 2, 4)
	is(2, k(num(1)), k(num(1)))
	is(2, k(num(2)), k(num(0)))
	is(2, behind(k(num(1))), k(num(1)))
	is(2, k(num(7)), behind(k(num(7))))
	is(2, k(num(math.MinInt64)), behind(k(num(math.MinInt64))), 6)
	is(2, k(api.Value{}), behind(k(api.Value{})), 5)
	is(2, []byte{3}, []byte{4}, 1, 2, 3, 4, 6)
	is(2, []byte{4}, nil)
	is(2, make([]byte, 1000), nil, 1, 2, 3, 4, 5, 6)
	is(3, nil, nil, 1, 2, 3, 4, 5, 6)
	is(3, k(text("row")), behind(k(text("row"))), 1, 2, 3)
	is(3, k(text("")), k(text("c")), 4, 6)
	is(3, k(text("b")), k(text("row")), 4)
	is(3, k(api.Value{}), k(text("")), 5)
	c.check(t)
}

// P12.2: rows whose value was changed, also to and fro, are each told once, where it stands.
func TestSeekChanged(t *testing.T) {
	c := scene(t, 4)
	a, b := c.open[0], c.open[1]
	k := func(n int64) []byte { return keyOf(t, num(n)) }
	told := func(xid uint64, n int64, want ...uint64) {
		t.Helper()
		if l, e := c.seek(t, xid, 2, k(n), behind(k(n))); e != api.OK || !slices.Equal(ids(l), want) {
			t.Errorf("%d by %d: %v, %d; want %v", xid, n, l, e, want)
		}
	}
	for _, n := range []int64{2, 0, 2, 0, 1} {
		wants(t, c.update(t, a, "t", c.scan(t, a, "t")[0], num(n), text("x")), api.OK)
		told(a, n, slices.Compact(slices.Sorted(slices.Values([]uint64{1, uint64(n) + 1})))...)
		if l, _ := c.seek(t, a, 2, nil, nil); !slices.Equal(ids(l), []uint64{1, 2, 3}) {
			t.Error(l)
		}
		told(b, 0, 1)
		told(b, n, uint64(n)+1)
	}
	told(a, 0)
	c.delete(t, a, "t", c.scan(t, a, "t")[0])
	told(a, 1, 2)
	c.commit(t, a)
	told(b, 0, 1)
	told(c.begin(t), 1, 2)
	c.check(t)
}

// P12.3, P7: Insert of values that aren't a row of the table: nothing has changed.
func TestInsertErrors(t *testing.T) {
	c := scene(t, 1)
	a := c.open[0]
	long := text(strings.Repeat("a", api.MaxText))
	wide := slices.Repeat([]api.Column{{Kind: api.Text}}, 4)
	for i := range wide {
		wide[i].Name = "c" + string(rune('0'+i))
	}
	wants(t, c.createTable(t, a, "u", wide...), api.OK)
	for _, x := range []struct {
		table string
		l     []api.Value
		want  api.Errno
	}{
		{"none", []api.Value{num(1), text("a")}, api.ErrName},
		{"i", []api.Value{num(1), text("a")}, api.ErrName},
		{"none", nil, api.ErrName},
		{"t", nil, api.ErrArg},
		{"t", []api.Value{num(1)}, api.ErrArg},
		{"t", []api.Value{num(1), text("a"), {}}, api.ErrArg},
		{"t", []api.Value{num(1), text("a\x00")}, api.ErrForm},
		{"t", []api.Value{num(1), text("\xff")}, api.ErrForm},
		{"t", []api.Value{num(1), text(strings.Repeat("a", api.MaxText+1))}, api.ErrForm},
		{"t", []api.Value{{Kind: api.Int, B: true}, text("a")}, api.ErrForm},
		{"t", []api.Value{text("a"), {Kind: 9}}, api.ErrForm},
		{"t", []api.Value{text("a"), text("a")}, api.ErrType},
		{"t", []api.Value{num(1), {Kind: api.Bool}}, api.ErrType},
		{"u", []api.Value{long, long, long, text(strings.Repeat("a", 16))}, api.ErrLong},
		{"u", []api.Value{long, long, long, text(strings.Repeat("a", 15))}, api.ErrFull}, // it fits, but there is no page
	} {
		wants(t, c.insert(t, a, x.table, x.l...), x.want)
		c.check(t)
	}
	for _, l := range [][]api.Value{{{}, {}}, {num(1), {}}, {{}, text("")}, {num(math.MaxInt64), long}} {
		wants(t, c.insert(t, a, "t", l...), api.OK)
	}
	if l := c.scan(t, a, "t"); !slices.Equal(ids(l), []uint64{1, 2, 3, 4, 5, 6, 7}) {
		t.Error(l)
	}
	c.check(t)
}

// P12.3, P7: where no page is left: nothing has changed; what is freed is room again.
func TestFull(t *testing.T) {
	c := scene(t, 1)
	a, b := c.open[0], c.open[1]
	long := text(strings.Repeat("a", api.MaxText))
	for c.s.Insert(a, "t", []api.Value{num(5), long}) == api.OK {
		c.rows++
		if c.rows > 20 {
			t.Fatal("it is never full")
		}
	}
	before, last := c.s.Used()[0], c.rows
	c = scene(t, 1)
	for range last - 3 {
		wants(t, c.insert(t, a, "t", num(5), long), api.OK)
	}
	l := c.scan(t, a, "t")
	for range 3 {
		wants(t, c.insert(t, a, "t", num(5), long), api.ErrFull)
		wants(t, c.update(t, a, "t", l[0], num(5), long), api.ErrFull)
		wants(t, c.update(t, b, "t", l[0], num(5), long), api.ErrFull)
		c.check(t)
	}
	if now := c.scan(t, a, "t"); !slices.EqualFunc(now, l, sameRow) || c.s.Used()[0] != before || c.s.Left() != 0 {
		t.Error(now)
	}
	// Whoever failed hasn't ended the version.
	wants(t, c.delete(t, b, "t", l[0]), api.OK)
	c.abort(t, a)
	c.sweep(t)
	wants(t, c.insert(t, b, "t", num(5), long), api.OK)
	if l := c.scan(t, b, "t"); !slices.Equal(ids(l), []uint64{2, 3, last + 1}) {
		t.Error(l)
	}
	c.check(t)
}

// P12.3: what may be changed: the version at the place, of the row; by whom it was ended.
func TestWhichVersion(t *testing.T) {
	for _, what := range []string{"update", "delete"} {
		c := scene(t, 4)
		a, b := c.open[0], c.open[1]
		change := func(xid uint64, r store.Row, want api.Errno) {
			t.Helper()
			if what == "update" {
				wants(t, c.update(t, xid, "t", r, num(7), text("z")), want)
			} else {
				wants(t, c.delete(t, xid, "t", r), want)
			}
			c.check(t)
		}
		l := c.scan(t, a, "t")
		at := func(page, slot int) api.TID { return api.TID{Page: page, Slot: slot} }
		for _, r := range []store.Row{
			{}, {ID: 1}, {ID: 1, At: l[1].At}, {ID: 2, At: l[0].At}, {ID: 0, At: l[0].At}, {ID: 4, At: l[0].At},
			{ID: 1, At: at(0, 3)}, {ID: 1, At: at(0, -1)}, {ID: 1, At: at(-1, 0)}, {ID: 1, At: at(1, 0)}, {ID: 1, At: at(math.MaxInt, math.MaxInt)},
		} {
			if r.ID == 1 && r.At == l[0].At {
				continue
			}
			change(a, r, api.ErrNone)
		}
		// Of a version that it doesn't see: another one made it, who runs.
		c.insert(t, b, "t", num(4), text("b's"))
		change(a, store.Row{ID: 4, At: at(0, 3)}, api.ErrState)
		// That it has ended itself; what it made itself it may end.
		wants(t, c.update(t, a, "t", l[0], num(5), text("a's")), api.OK)
		change(a, l[0], api.ErrState)
		change(a, c.scan(t, a, "t")[0], api.OK)
		// That another one has ended that runs, and that is committed.
		change(b, l[0], api.ErrConflict)
		change(b, store.Row{ID: 1, At: at(0, 4)}, api.ErrConflict)
		wants(t, c.delete(t, a, "t", l[1]), api.OK)
		change(b, l[1], api.ErrConflict)
		c.commit(t, a)
		change(b, l[0], api.ErrConflict)
		change(b, l[1], api.ErrConflict)
		change(b, l[2], api.OK)
		// That was freed.
		c.commit(t, b)
		c.sweep(t)
		change(c.begin(t), l[1], api.ErrNone)
	}
}

// P12.3, P4: a second one that changes the same row, once the first one runs, is committed, is aborted.
func TestFirstWins(t *testing.T) {
	for _, first := range []string{"update", "delete"} {
		for _, second := range []string{"update", "delete"} {
			for _, end := range []string{"runs", "committed", "aborted"} {
				c := scene(t, 4)
				a, b := c.open[0], c.open[1]
				r := c.scan(t, b, "t")[1]
				wants(t, c.change(t, a, first, r), api.OK)
				want := api.ErrConflict
				switch end {
				case "committed":
					c.commit(t, a)
				case "aborted":
					c.abort(t, a)
					want = api.OK
				}
				wants(t, c.change(t, b, second, r), want)
				c.check(t)
				// The loser sees what it saw, and may go on with another row.
				if want == api.ErrConflict {
					if l := c.scan(t, b, "t"); len(l) != 3 || !sameRow(l[1], r) {
						t.Error(l)
					}
				}
				wants(t, c.change(t, b, second, c.scan(t, b, "t")[0]), api.OK)
				c.check(t)
			}
		}
	}
}

// change updates a row, or deletes it.
func (c *script) change(t *testing.T, xid uint64, how string, r store.Row) api.Errno {
	t.Helper()
	if how == "update" {
		return c.update(t, xid, "t", r, num(int64(xid)), text(how))
	}
	return c.delete(t, xid, "t", r)
}

// P12.3: a version that aborted ones had changed, one after the other, is changed by a later one.
func TestBehindAborted(t *testing.T) {
	c := scene(t, 4)
	for round := range 5 {
		xid := c.begin(t)
		l := c.scan(t, xid, "t")
		wants(t, c.change(t, xid, []string{"update", "delete"}[round%2], l[0]), api.OK)
		c.abort(t, xid)
		c.check(t)
	}
	c.sweep(t)
	c.check(t)
	last := c.begin(t)
	wants(t, c.change(t, last, "update", c.scan(t, last, "t")[0]), api.OK)
	if l := c.scan(t, last, "t"); len(l) != 3 || l[0].ID != 1 || l[0].Values[0] != num(9) {
		t.Error(l)
	}
	c.check(t)
}

// P12.3: of several errors that apply to Update the first as the chapter has them; of Delete likewise.
func TestErrorsInOrder(t *testing.T) {
	c := scene(t, 1)
	a, b := c.open[0], c.open[1]
	long := text(strings.Repeat("a", api.MaxText))
	r := c.scan(t, a, "t")[0]
	wants(t, c.update(t, b, "t", r, num(1), text("x")), api.OK)
	for range 3 {
		wants(t, c.insert(t, b, "t", num(1), long), api.OK)
	}
	wants(t, c.insert(t, b, "t", num(1), long), api.ErrFull)
	none, state := store.Row{ID: 9}, c.scan(t, b, "t")[0]
	good, wrong := []api.Value{num(1), long}, []api.Value{text("a"), long}
	wants(t, c.update(t, 99, "none", none, wrong...), api.ErrNone)
	wants(t, c.update(t, a, "none", none, wrong...), api.ErrName)
	wants(t, c.update(t, a, "none", r, good...), api.ErrName)
	for _, x := range []store.Row{none, r, state, c.scan(t, a, "t")[1]} {
		wants(t, c.update(t, a, "t", x), api.ErrArg)
		wants(t, c.update(t, a, "t", x, text("\xff"), num(1)), api.ErrForm)
		wants(t, c.update(t, a, "t", x, wrong...), api.ErrType)
	}
	wants(t, c.update(t, a, "t", none, good...), api.ErrNone)
	wants(t, c.update(t, a, "t", r, good...), api.ErrConflict)
	wants(t, c.update(t, a, "t", state, good...), api.ErrState)
	wants(t, c.update(t, a, "t", c.scan(t, a, "t")[1], good...), api.ErrFull)
	wants(t, c.delete(t, 99, "none", none), api.ErrNone)
	wants(t, c.delete(t, a, "none", none), api.ErrName)
	wants(t, c.delete(t, a, "none", r), api.ErrName)
	wants(t, c.delete(t, a, "t", none), api.ErrNone)
	wants(t, c.delete(t, a, "t", r), api.ErrConflict)
	wants(t, c.delete(t, a, "t", state), api.ErrState)
	c.check(t)
}

// P12.3, P7: ErrLong is Update's too, of a row that would have more than MaxRow bytes.
func TestUpdateLong(t *testing.T) {
	w := fresh(t, 2)
	a := w.begin(t)
	var l []api.Column
	for _, name := range []string{"a", "b", "c", "d"} {
		l = append(l, api.Column{Name: name, Kind: api.Text})
	}
	wants(t, w.createTable(t, a, "t", l...), api.OK)
	full := text(strings.Repeat("a", api.MaxText))
	wants(t, w.insert(t, a, "t", full, full, full, text(strings.Repeat("b", 15))), api.OK)
	r := w.scan(t, a, "t")[0]
	wants(t, w.update(t, a, "t", r, full, full, full, text(strings.Repeat("b", 16))), api.ErrLong)
	wants(t, w.update(t, a, "t", store.Row{}, full, full, full, full), api.ErrLong)
	wants(t, w.update(t, a, "t", r, full, full, text(strings.Repeat("b", 15)), full), api.OK)
	w.check(t)
}

// P12.3: r's Values aren't asked for; its ID and its place tell the version.
func TestRowByPlace(t *testing.T) {
	c := scene(t, 2)
	a := c.open[0]
	wants(t, c.update(t, a, "t", store.Row{ID: 1, Values: []api.Value{{Kind: 9}}}, num(5), text("")), api.OK)
	wants(t, c.delete(t, a, "t", store.Row{ID: 2, At: api.TID{Slot: 1}}), api.OK)
	if l := c.scan(t, a, "t"); !slices.Equal(ids(l), []uint64{1, 3}) || l[0].Values[0] != num(5) {
		t.Error(l)
	}
	c.check(t)
}

// What is handed in stays untouched, with its spare room, and isn't kept.
func TestHandedIn(t *testing.T) {
	c := scene(t, 2)
	a := c.open[0]
	l := append(make([]api.Value, 0, 5), num(1), text("a"))
	l[:3][2] = num(99)
	was := slices.Clone(l[:5])
	k := append(make([]byte, 0, 30), keyOf(t, num(0))...)
	to := behind(k)
	kept := slices.Clone(k[:30])
	cols := append(make([]api.Column, 0, 5), columns()...)
	places := append(make([]api.TID, 0, 5), api.TID{Slot: 3}, api.TID{Slot: 3})
	wants(t, c.s.CreateTable(a, "u", cols), api.OK)
	wants(t, c.s.Insert(a, "t", l), api.OK)
	wants(t, c.s.Update(a, "t", store.Row{ID: 1, Values: l}, l), api.OK)
	c.s.Seek(a, 2, k, to)
	c.s.Unlink(2, places)
	c.s.Release(1, places)
	if !slices.Equal(l[:5], was) || !slices.Equal(k[:30], kept) || !slices.Equal(cols, columns()) || !slices.Equal(cols[:5][2:], make([]api.Column, 3)) || !slices.Equal(places[:5], []api.TID{{Slot: 3}, {Slot: 3}, {}, {}, {}}) {
		t.Error(l, k, cols, places)
	}
	l[0], l[1], cols[0], k[1], to[1] = text("wrong"), num(7), api.Column{}, 0xff, 0xff
	if x, _ := c.s.Table(a, "u"); !slices.Equal(x.Columns, columns()) {
		t.Error(x)
	}
	rows, e := c.s.Scan(a, "t")
	if e != api.OK || len(rows) != 4 || !slices.Equal(rows[0].Values, was[:2]) || !slices.Equal(rows[3].Values, was[:2]) {
		t.Error(rows, e)
	}
}

// An answer is its own: what is written over it, spare room too, is told to nobody.
func TestAnswersAreOwn(t *testing.T) {
	c := scene(t, 2)
	a := c.open[0]
	c.insert(t, c.open[1], "t", num(4), text(""))
	c.abort(t, c.open[1])
	for range 3 {
		rows := c.scan(t, a, "t")
		again, _ := c.seek(t, a, 2, nil, nil)
		for _, l := range [][]store.Row{rows, again} {
			for i := range l {
				v := l[i].Values[:cap(l[i].Values)]
				for j := range v {
					v[j] = api.Value{Kind: 9}
				}
			}
			clear(l[:cap(l)])
		}
		x, _ := c.s.Table(a, "t")
		clear(x.Columns[:cap(x.Columns)])
		tables, indexes := c.s.Book()
		clear(tables[0].Columns[:cap(tables[0].Columns)])
		clear(tables[:cap(tables)])
		clear(indexes[:cap(indexes)])
		clear(whole(c.s.Indexes(a, "t")))
		clear(whole(c.s.Running()))
		clear(whole(c.s.Used()))
		clear(whole(c.s.Entries()))
		clear(whole(c.s.Gather(1, 0)))
		c.check(t)
	}
}

// whole is a list with its spare room.
func whole[T any](l []T) []T {
	return l[:cap(l)]
}
