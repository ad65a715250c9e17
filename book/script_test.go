package book_test

import (
	"slices"
	"strconv"
	"testing"

	"lapidary/api"
	"lapidary/book"
	"lapidary/snap"
)

// horizon is that of snapshots, as layer 10 tells it.
func (w *world) horizon(open []view) uint64 {
	var all []snap.Snapshot
	for _, v := range open {
		all = append(all, v.s)
	}
	return snap.Horizon(w.l, all)
}

// script is transactions that run, and what each of them does.
type script struct {
	*world
	open []view
}

// scene is a table with an index, both committed, and two transactions that run.
func scene(t *testing.T) *script {
	t.Helper()
	w := fresh(t)
	one := w.begin(t)
	w.createTable(t, one, "t", columns()...)
	w.createIndex(t, one, "i", "t", "b")
	w.commit(t, one)
	return &script{w, []view{w.begin(t), w.begin(t)}}
}

// moves are how many there are at each step of a script.
const moves = 2*10 + 1

// move does one: of the first or of the last transaction that runs, or a pruning.
func (c *script) move(t *testing.T, n int) {
	t.Helper()
	if n == moves-1 {
		c.prune(t, c.horizon(c.open))
		return
	}
	if len(c.open) == 0 {
		c.open = append(c.open, c.begin(t))
	}
	at := (len(c.open) - 1) * (n % 2)
	v := c.open[at]
	switch n / 2 {
	case 0:
		c.createTable(t, v, "t", columns()...)
	case 1:
		c.createTable(t, v, "i", columns()[:1]...)
	case 2:
		c.createIndex(t, v, "i", "t", "b")
	case 3:
		c.createIndex(t, v, "j", "t", "a")
	case 4:
		c.dropTable(t, v, "t")
	case 5:
		c.dropTable(t, v, "i")
	case 6:
		c.dropIndex(t, v, "i")
	case 7:
		c.commit(t, v)
		c.open = slices.Delete(c.open, at, at+1)
	case 8:
		c.abort(t, v)
		c.open = slices.Delete(c.open, at, at+1)
	case 9:
		c.open = append(c.open, c.begin(t))
	}
}

// P11.1, P11.2, P11.3, P4, P7: all scripts of four steps.
func TestAllScripts(t *testing.T) {
	steps := make([]int, 4)
	for n := range moves * moves * moves * moves {
		for i := range steps {
			steps[i] = n % moves
			n /= moves
		}
		c := scene(t)
		for _, step := range steps {
			c.move(t, step)
		}
		c.check(t, c.open...)
		c.unique(t)
	}
}

// unique: of all that a snapshot sees each has a name of its own.
func (c *script) unique(t *testing.T) {
	t.Helper()
	for _, v := range append(slices.Clone(c.open), c.look(0)) {
		names := map[string]uint64{}
		for _, x := range append(c.visibles(v, true), c.visibles(v, false)...) {
			if names[x.name] != 0 {
				t.Fatalf("states %v, things %+v: %+v sees two of %s", c.states, c.things, v.s, x.name)
			}
			names[x.name] = x.id
		}
	}
}

// P11.1, P11.2, P11.3, P4, P7: long scripts, of which all is held against the chapter between any two steps.
func TestLongScripts(t *testing.T) {
	d := dice(11)
	for round := range 40 {
		c := scene(t)
		for range 120 {
			c.chance(t, &d, 2+round%4)
			c.check(t, c.open...)
			c.unique(t)
		}
	}
}

// chance does one thing of those there are, of the transactions that run, at most so many.
func (c *script) chance(t *testing.T, d *dice, most int) {
	t.Helper()
	if len(c.open) == 0 || len(c.open) < most && d.roll(4) == 0 {
		c.open = append(c.open, c.begin(t))
		return
	}
	at := d.roll(len(c.open))
	v := c.open[at]
	name := func() string { return "n" + strconv.Itoa(d.roll(20)) }
	switch d.roll(16) {
	case 0, 1, 2, 3:
		c.createTable(t, v, name(), columns()...)
	case 4, 5, 6, 7:
		c.createIndex(t, v, name(), c.some(d, v, true), []string{"a", "b", "b", "c"}[d.roll(4)])
	case 8, 9:
		c.dropTable(t, v, c.some(d, v, true))
	case 10, 11:
		c.dropIndex(t, v, c.some(d, v, false))
	case 12, 13:
		c.commit(t, v)
		c.open = slices.Delete(c.open, at, at+1)
	case 14:
		c.abort(t, v)
		c.open = slices.Delete(c.open, at, at+1)
	default:
		c.prune(t, []uint64{c.horizon(c.open), uint64(d.roll(len(c.states) + 2)), 0}[d.roll(6)/2])
	}
}

// some is a name, mostly of what a snapshot sees.
func (c *script) some(d *dice, v view, tables bool) string {
	if l := c.visibles(v, tables); len(l) > 0 && d.roll(8) > 0 {
		return l[d.roll(len(l))].name
	}
	return "n" + strconv.Itoa(d.roll(20))
}

// seen is what a transaction sees of a book: its tables, each with its indexes, told as text, but for
// who drops them.
func (c *script) seen(v view) string {
	out := ""
	for n := range 20 {
		x, ok := c.b.Table(c.l, v.s, "n"+strconv.Itoa(n))
		if !ok {
			continue
		}
		out += strconv.FormatUint(x.ID, 10) + x.Name + ":"
		for _, y := range c.b.Indexes(c.l, v.s, x.ID) {
			out += strconv.FormatUint(y.ID, 10) + y.Name + " "
		}
	}
	return out
}

// P3: a transaction that only looks sees the same tables and indexes from its beginning to its end,
// whatever others do, and while what is dead is pruned.
func TestStays(t *testing.T) {
	d := dice(29)
	for range 30 {
		c := scene(t)
		for range 40 {
			c.chance(t, &d, 3)
		}
		reader := c.begin(t)
		first := c.seen(reader)
		for range 60 {
			c.chanceBut(t, &d, reader)
			if now := c.seen(reader); now != first {
				t.Fatalf("%+v saw %s, and now sees %s", reader.s, first, now)
			}
		}
	}
}

// chanceBut is a doing of others than of one that looks; prunings heed it.
func (c *script) chanceBut(t *testing.T, d *dice, reader view) {
	t.Helper()
	if d.roll(4) == 0 {
		c.prune(t, c.horizon(append(slices.Clone(c.open), reader)))
		return
	}
	at := -1
	if len(c.open) > 0 {
		at = d.roll(len(c.open))
	}
	switch n := d.roll(10); {
	case at < 0 || n == 0:
		c.open = append(c.open, c.begin(t))
	case n < 3:
		c.createTable(t, c.open[at], "n"+strconv.Itoa(d.roll(20)), columns()...)
	case n < 5:
		c.createIndex(t, c.open[at], "n"+strconv.Itoa(d.roll(20)), c.some(d, c.open[at], true), "a")
	case n < 6:
		c.dropTable(t, c.open[at], c.some(d, c.open[at], true))
	case n < 7:
		c.dropIndex(t, c.open[at], c.some(d, c.open[at], false))
	default:
		if n < 9 {
			c.commit(t, c.open[at])
		} else {
			c.abort(t, c.open[at])
		}
		c.open = slices.Delete(c.open, at, at+1)
	}
}

// P3: what a transaction made is seen whole, or not at all.
func TestWhole(t *testing.T) {
	w := fresh(t)
	maker := w.begin(t)
	w.createTable(t, maker, "t", columns()...)
	w.createIndex(t, maker, "i", "t", "a")
	ahead := w.begin(t)
	w.createTable(t, maker, "u", columns()...)
	w.commit(t, maker)
	behind := w.begin(t)
	sees := func(v view, tables, indexes int) {
		t.Helper()
		n := 0
		for _, name := range []string{"t", "u"} {
			if _, ok := w.b.Table(w.l, v.s, name); ok {
				n++
			}
		}
		if n != tables || len(w.b.Indexes(w.l, v.s, 1)) != indexes {
			t.Errorf("%+v sees %d tables", v.s, n)
		}
	}
	sees(ahead, 0, 0)
	sees(behind, 2, 1)
	ender := w.begin(t)
	w.dropTable(t, ender, "t")
	w.dropTable(t, ender, "u")
	sees(behind, 2, 1)
	sees(ender, 0, 0)
	w.commit(t, ender)
	sees(behind, 2, 1)
	sees(w.begin(t), 0, 0)
	sees(ahead, 0, 0)
}

// P2: the same calls are answered the same, also when other books are told others in between.
func TestSameAgain(t *testing.T) {
	run := func(also bool) []book.Table {
		d, e := dice(5), dice(6)
		c, other := scene(t), scene(t)
		for range 200 {
			c.chance(t, &d, 3)
			if also {
				other.chance(t, &e, 4)
			}
		}
		return c.b.Tables()
	}
	first := run(false)
	if len(first) == 0 || !slices.EqualFunc(run(true), first, sameTable) {
		t.Error("another answer")
	}
}

// P4, P11.2: who is first wins, and the other one is told at once.
func TestFirstWins(t *testing.T) {
	for _, second := range []string{"table", "index"} {
		drop := func(w *world, v view) api.Errno {
			if second == "table" {
				return w.dropTable(t, v, "t")
			}
			return w.dropIndex(t, v, "i")
		}
		for _, end := range []string{"runs", "committed", "aborted"} {
			c := scene(t)
			a, b := c.open[0], c.open[1]
			if e := drop(c.world, a); e != api.OK {
				t.Fatal(second, end, e)
			}
			want := api.ErrConflict
			switch end {
			case "committed":
				c.commit(t, a)
			case "aborted":
				c.abort(t, a)
				want = api.OK
			}
			if e := drop(c.world, b); e != want {
				t.Errorf("%s, %s: %d; want %d", second, end, e, want)
			}
			c.check(t, a, b)
		}
	}
}
