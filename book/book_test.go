package book_test

import (
	"slices"
	"strconv"
	"strings"
	"testing"

	"lapidary/api"
	"lapidary/book"
)

// wants checks an error that a call has answered.
func wants(t *testing.T, got, want api.Errno) {
	t.Helper()
	if got != want {
		t.Errorf("error %d; want %d", got, want)
	}
}

// with is a column of a kind.
func with(name string, kind api.Kind) api.Column {
	return api.Column{Name: name, Kind: kind}
}

// many are columns c0, c1 ..
func many(n int) []api.Column {
	var l []api.Column
	for i := range n {
		l = append(l, with("c"+strconv.Itoa(i), api.Kind(1+i%3)))
	}
	return l
}

// The chapter's example.
func TestExample(t *testing.T) {
	w := fresh(t)
	one, two := w.begin(t), w.begin(t)
	wants(t, w.createTable(t, one, "t", columns()...), api.OK)
	wants(t, w.createTable(t, two, "t", columns()...), api.ErrConflict)
	w.commit(t, one)
	wants(t, w.createTable(t, two, "t", columns()...), api.ErrConflict)
	wants(t, w.createTable(t, w.begin(t), "t", columns()...), api.ErrExists)
	w.check(t, one, two)
}

// P11.3: names by their lengths, and by each byte at each place.
func TestName(t *testing.T) {
	for n := range 2*api.MaxName + 5 {
		for _, s := range []string{strings.Repeat("a", n), strings.Repeat("_", n), "z" + strings.Repeat("9", n)} {
			if book.Name(s) != (len(s) >= 1 && len(s) <= 20) {
				t.Errorf("%q", s)
			}
		}
	}
	for c := range 256 {
		first := c >= 'a' && c <= 'z' || c == '_'
		later := first || c >= '0' && c <= '9'
		b := string([]byte{byte(c)})
		for s, want := range map[string]bool{b: first, b + "a": first, b + b: first, "a" + b: later, "_" + b + "z": later, strings.Repeat("x", 19) + b: later, strings.Repeat("x", 20) + b: false} {
			if book.Name(s) != want {
				t.Errorf("%q: %t", s, !want)
			}
		}
	}
	for _, s := range []string{"", "1a", "0", "A", "aB", "é", "aé", "ß", "a b", " a", "a ", "a.b", "a-b", "`", "{", "/", ":", "@", "[", "a\x00", "a\xff", strings.Repeat("a", 1<<20)} {
		if book.Name(s) {
			t.Errorf("%.30q", s)
		}
	}
	for _, s := range []string{"a", "z", "_", "__", "_1", "a0", "z9", "select", "abcdefghijklmnopqrst"} {
		if !book.Name(s) {
			t.Errorf("%q", s)
		}
	}
}

// noNames are texts that are no names.
func noNames() []string {
	return []string{"", "1a", "A", "aB", "a b", "é", "{", "`", strings.Repeat("a", api.MaxName+1), "a\x00"}
}

// P11.1: CreateTable with what isn't of the form; nothing comes of it, no ID either.
func TestTableForm(t *testing.T) {
	w := fresh(t)
	v := w.begin(t)
	form := func(name string, l []api.Column) {
		t.Helper()
		if id, e := w.b.CreateTable(w.l, v.s, name, l); id != 0 || e != api.ErrForm {
			t.Errorf("CreateTable(%q, %v) = %d, %d", name, l, id, e)
		}
		w.check(t, v)
	}
	for _, bad := range noNames() {
		form(bad, columns())
		form("t", []api.Column{with(bad, api.Int)})
		form("t", []api.Column{with("a", api.Int), with(bad, api.Text), with("b", api.Bool)})
		form("t", append(many(7), with(bad, api.Bool)))
	}
	form("t", nil)
	form("t", []api.Column{})
	form("t", many(api.MaxColumns+1))
	form("t", many(1000))
	form("t", []api.Column{with("a", api.Int), with("a", api.Int)})
	form("t", []api.Column{with("a", api.Int), with("b", api.Int), with("a", api.Text)})
	form("t", append(many(7), with("c0", api.Bool)))
	form("t", append(many(7), with("c6", api.Bool)))
	for _, kind := range []api.Kind{api.Null, 4, 5, 128, 255} {
		form("t", []api.Column{with("a", kind)})
		form("t", append(many(7), with("z", kind)))
		form("t", append([]api.Column{with("z", kind)}, many(3)...))
	}
	wants(t, w.createTable(t, v, "t", many(1)...), api.OK)
	if x, _ := w.b.Table(w.l, v.s, "t"); x.ID != 1 {
		t.Errorf("ID %d behind errors", x.ID)
	}
}

// P11.1: CreateTable with one column, with as many as there may be, with all kinds, with the longest names.
func TestCreateTable(t *testing.T) {
	w := fresh(t)
	v := w.begin(t)
	long := strings.Repeat("a", api.MaxName)
	wants(t, w.createTable(t, v, "t", with("t", api.Bool)), api.OK)
	wants(t, w.createTable(t, v, long, with(long, api.Int), with(long[1:], api.Text)), api.OK)
	wants(t, w.createTable(t, v, "_", many(api.MaxColumns)...), api.OK)
	wants(t, w.createTable(t, v, "u", columns()...), api.OK)
	w.check(t, v)
	w.commit(t, v)
	w.check(t, v, w.begin(t))
	x, ok := w.b.Table(w.l, v.s, "_")
	if !ok || x.ID != 3 || x.Name != "_" || x.Xmin != 1 || x.Xmax != 0 || !slices.Equal(x.Columns, many(8)) {
		t.Errorf("%+v, %t", x, ok)
	}
}

// P11.1: CreateIndex with what isn't of the form, or has no meaning; nothing comes of it.
func TestIndexNames(t *testing.T) {
	c := scene(t)
	v, other := c.open[0], c.open[1]
	bad := func(name, table, column string, want api.Errno) {
		t.Helper()
		if x, e := c.b.CreateIndex(c.l, v.s, name, table, column); x != (book.Index{}) || e != want {
			t.Errorf("CreateIndex(%q, %q, %q) = %+v, %d; want %d", name, table, column, x, e, want)
		}
		c.check(t, v, other)
	}
	for _, no := range noNames() {
		bad(no, "t", "a", api.ErrForm)
		bad(no, "none", "none", api.ErrForm)
		bad("j", no, "a", api.ErrName)
		bad("j", "t", no, api.ErrName)
	}
	bad("j", "u", "a", api.ErrName)
	bad("j", "i", "a", api.ErrName) // an index is no table
	bad("j", "t", "c", api.ErrName)
	bad("j", "t", "t", api.ErrName)
	bad("j", "t", "A", api.ErrName)
	c.createTable(t, other, "u", columns()...)
	bad("j", "u", "a", api.ErrName)
	c.commit(t, other)
	bad("j", "u", "a", api.ErrName)
	c.dropTable(t, v, "t")
	bad("j", "t", "a", api.ErrName)
	bad("i", "t", "a", api.ErrName)
}

// P11.1: an index of a table that another one has dropped that runs: its maker sees the table, so it is made.
func TestIndexOfDropped(t *testing.T) {
	c := scene(t)
	a, b := c.open[0], c.open[1]
	wants(t, c.dropTable(t, a, "t"), api.OK)
	wants(t, c.createIndex(t, b, "j", "t", "a"), api.OK)
	c.commit(t, a, b)
	v := c.begin(t)
	c.check(t, a, b, v)
	wants(t, c.createIndex(t, v, "k", "t", "a"), api.ErrName)
	wants(t, c.createTable(t, v, "j", columns()...), api.ErrExists)
	if tables, indexes := c.prune(t, 4); tables != 1 || indexes != 2 {
		t.Errorf("%d, %d", tables, indexes)
	}
	c.check(t, a, b, v)
	wants(t, c.createTable(t, v, "j", columns()...), api.OK)
}

// P11.1: CreateIndex of each column, of own tables and of others', several of one column.
func TestCreateIndex(t *testing.T) {
	c := scene(t)
	v := c.open[0]
	c.createTable(t, v, "u", many(8)...)
	for i := range 8 {
		wants(t, c.createIndex(t, v, "u"+strconv.Itoa(i), "u", "c"+strconv.Itoa(i)), api.OK)
	}
	wants(t, c.createIndex(t, v, "a", "t", "a"), api.OK)
	wants(t, c.createIndex(t, v, "b", "t", "a"), api.OK)
	c.check(t, c.open...)
	x, e := c.b.CreateIndex(c.l, c.open[1].s, strings.Repeat("z", api.MaxName), "t", "b")
	if want := (book.Index{ID: 14, Name: strings.Repeat("z", 20), Table: 1, Column: 1, Xmin: 3}); x != want || e != api.OK {
		t.Errorf("%+v, %d", x, e)
	}
}

// P11.1: the index is of the visible table of that name, where others of that name are there too.
func TestIndexOfWhich(t *testing.T) {
	c := scene(t)
	a, b := c.open[0], c.open[1]
	c.dropTable(t, a, "t")
	wants(t, c.createTable(t, a, "t", with("b", api.Int)), api.OK)
	wants(t, c.createIndex(t, a, "j", "t", "a"), api.ErrName)
	wants(t, c.createIndex(t, a, "j", "t", "b"), api.OK)
	wants(t, c.createIndex(t, b, "k", "t", "b"), api.OK)
	if x := c.b.Indexes(c.l, a.s, 3); len(x) != 1 || x[0].Name != "j" || x[0].Column != 0 {
		t.Errorf("%+v", x)
	}
	if x := c.b.Indexes(c.l, b.s, 1); len(x) != 2 || x[1].Name != "k" || x[1].Column != 1 {
		t.Errorf("%+v", x)
	}
	c.check(t, a, b)
}

// P11.1, P4: a name, a table's and an index's, had in each way; what v, that runs, is answered that
// asks for one more of it. Steps: who, and . begins, + makes it, - drops it, c commits, a aborts.
func TestTaken(t *testing.T) {
	for _, c := range []struct {
		steps string
		want  api.Errno
	}{
		{"v.", api.OK},
		{"v. v+", api.ErrExists},
		{"a. a+ ac v.", api.ErrExists},
		{"a. a+ v.", api.ErrConflict},
		{"v. a. a+", api.ErrConflict},
		{"a. v. a+ ac", api.ErrConflict},
		{"v. a. a+ ac", api.ErrConflict},
		{"a. a+ aa v.", api.OK},
		{"v. a. a+ aa", api.OK},
		{"v. v+ v-", api.OK},
		{"v. a. a+ a-", api.ErrConflict},
		{"v. a. a+ a- ac", api.OK},
		{"v. a. a+ a- aa", api.OK},
		{"a. a+ ac v. v-", api.OK},
		{"a. a+ ac v. v- v+", api.ErrExists},
		{"a. a+ ac v. v- v+ v-", api.OK},
		{"a. a+ ac b. b- v.", api.ErrExists},
		{"a. a+ ac b. v. b- ba", api.ErrExists},
		{"a. a+ ac b. b- ba v.", api.ErrExists},
		{"a. a+ ac b. v. b- bc", api.ErrExists},
		{"a. a+ ac b. b- bc v.", api.OK},
		{"a. a+ ac b. b- b+ v.", api.ErrExists},
		{"a. a+ ac b. b- b+ bc v.", api.ErrExists},
		{"a. a+ ac v. b. b- b+ bc", api.ErrExists},
		{"a. a+ ac b. b- bc v. d. d+", api.ErrConflict},
		{"v. a. a+ ac b. b-", api.ErrConflict},
		{"v. a. a+ ac b. b- ba", api.ErrConflict},
		{"v. a. a+ ac b. b- bc", api.OK},
		{"v. a. a+ ac b. b- b+ bc", api.ErrConflict},
	} {
		for _, had := range []string{"table", "index"} {
			for _, asked := range []string{"table", "index"} {
				w := fresh(t)
				v := w.live(t, had, c.steps)
				before := w.last
				if e := w.ask(t, v, asked); e != c.want {
					t.Errorf("a %s, %s: a %s more: %d; want %d", had, c.steps, asked, e, c.want)
				}
				if (w.last > before) != (c.want == api.OK) {
					t.Errorf("%s: the last ID was %d, and is %d", c.steps, before, w.last)
				}
				w.check(t, v)
			}
		}
	}
}

// live goes through the steps of TestTaken, for a thing x of a sort: v.
func (w *world) live(t *testing.T, sort, steps string) view {
	t.Helper()
	first := w.begin(t)
	w.createTable(t, first, "base", columns()...)
	w.commit(t, first)
	who := map[byte]view{}
	for _, step := range strings.Fields(steps) {
		switch step[1] {
		case '.':
			who[step[0]] = w.begin(t)
		case '+':
			wants(t, w.ask(t, who[step[0]], sort), api.OK)
		case '-':
			wants(t, w.unask(t, who[step[0]], sort), api.OK)
		case 'c':
			w.commit(t, who[step[0]])
		case 'a':
			w.abort(t, who[step[0]])
		}
	}
	return who['v']
}

// ask asks for a thing x of a sort.
func (w *world) ask(t *testing.T, v view, sort string) api.Errno {
	t.Helper()
	if sort == "table" {
		return w.createTable(t, v, "x", columns()...)
	}
	return w.createIndex(t, v, "x", "base", "b")
}

// unask drops it.
func (w *world) unask(t *testing.T, v view, sort string) api.Errno {
	t.Helper()
	if sort == "table" {
		return w.dropTable(t, v, "x")
	}
	return w.dropIndex(t, v, "x")
}

// P11.1: of several entries of one name, a visible one goes ahead of one that is alive, whichever came first.
func TestExistsAheadOfConflict(t *testing.T) {
	c := scene(t)
	a, b := c.open[0], c.open[1]
	wants(t, c.dropTable(t, a, "t"), api.OK)
	wants(t, c.createTable(t, a, "t", columns()...), api.OK)
	wants(t, c.createTable(t, b, "t", columns()...), api.ErrExists)
	wants(t, c.createIndex(t, b, "t", "t", "a"), api.ErrExists)
	wants(t, c.createTable(t, a, "t", columns()...), api.ErrExists)
	c.commit(t, a)
	wants(t, c.createTable(t, b, "t", columns()...), api.ErrExists)
	c.check(t, a, b)
}

// P11.1: a name that s.Own dropped is free for it; the other's, of the same name, isn't.
func TestOwnDropAndOther(t *testing.T) {
	w := fresh(t)
	a := w.begin(t)
	b := w.begin(t)
	wants(t, w.createTable(t, a, "x", columns()...), api.OK)
	wants(t, w.dropTable(t, a, "x"), api.OK)
	wants(t, w.createTable(t, b, "x", columns()...), api.ErrConflict)
	wants(t, w.createTable(t, a, "x", columns()...), api.OK)
	wants(t, w.dropTable(t, a, "x"), api.OK)
	wants(t, w.createIndex(t, a, "x", "x", "a"), api.ErrName)
	wants(t, w.createTable(t, b, "x", columns()...), api.ErrConflict)
	w.abort(t, a)
	wants(t, w.createTable(t, b, "x", columns()...), api.OK)
	w.check(t, a, b)
}

// P11.1: as many tables as there may be, and one more; what is dead counts till it is pruned.
func TestMaxTables(t *testing.T) {
	w := fresh(t)
	a, b := w.begin(t), w.begin(t)
	for i := range api.MaxTables {
		v := []view{a, b}[i%2]
		wants(t, w.createTable(t, v, "t"+strconv.Itoa(i), columns()...), api.OK)
	}
	wants(t, w.createTable(t, a, "x", columns()...), api.ErrFull)
	wants(t, w.createTable(t, a, "t0", columns()...), api.ErrExists)
	wants(t, w.createTable(t, a, "t1", columns()...), api.ErrConflict)
	if _, e := w.b.CreateTable(w.l, a.s, "x", nil); e != api.ErrForm {
		t.Error(e)
	}
	wants(t, w.createIndex(t, a, "x", "t0", "a"), api.OK)
	w.dropTable(t, a, "t0")
	wants(t, w.createTable(t, a, "t0", columns()...), api.ErrFull)
	w.abort(t, b)
	wants(t, w.createTable(t, a, "t1", columns()...), api.ErrFull)
	w.check(t, a)
	if tables, _ := w.prune(t, 0); tables != 8 {
		t.Errorf("%d pruned", tables)
	}
	for i := range 8 {
		wants(t, w.createTable(t, a, "t"+strconv.Itoa(2*i+1), columns()...), api.OK)
	}
	wants(t, w.createTable(t, a, "x2", columns()...), api.ErrFull)
	w.check(t, a)
}

// P11.1: as many indexes as there may be, of all tables together, and one more.
func TestMaxIndexes(t *testing.T) {
	w := fresh(t)
	a := w.begin(t)
	w.createTable(t, a, "t", columns()...)
	w.createTable(t, a, "u", columns()...)
	w.commit(t, a)
	a, b := w.begin(t), w.begin(t)
	for i := range api.MaxIndexes {
		v := []view{a, b}[i%2]
		wants(t, w.createIndex(t, v, "i"+strconv.Itoa(i), []string{"t", "u"}[i/2%2], "a"), api.OK)
	}
	wants(t, w.createIndex(t, a, "x", "t", "a"), api.ErrFull)
	wants(t, w.createIndex(t, a, "i0", "t", "a"), api.ErrExists)
	wants(t, w.createIndex(t, a, "i1", "t", "a"), api.ErrConflict)
	wants(t, w.createIndex(t, a, "i1", "t", "c"), api.ErrName)
	wants(t, w.createIndex(t, a, "i0", "x", "a"), api.ErrName)
	wants(t, w.createTable(t, a, "x", columns()...), api.OK)
	w.dropIndex(t, a, "i0")
	wants(t, w.createIndex(t, a, "i0", "t", "a"), api.ErrFull)
	w.abort(t, b)
	wants(t, w.createIndex(t, a, "i1", "t", "a"), api.ErrFull)
	w.check(t, a)
	if _, indexes := w.prune(t, 0); indexes != 8 {
		t.Errorf("%d pruned", indexes)
	}
	for i := range 8 {
		wants(t, w.createIndex(t, a, "i"+strconv.Itoa(2*i+1), "u", "b"), api.OK)
	}
	wants(t, w.createIndex(t, a, "y", "t", "a"), api.ErrFull)
	w.check(t, a)
}

// P11.1: the IDs of tables and indexes together rise from 1 on, one by one, behind errors and prunings too.
func TestIDs(t *testing.T) {
	w := fresh(t)
	next := uint64(0)
	for round := range 10 {
		v := w.begin(t)
		w.createTable(t, v, "t", columns()...)
		w.createTable(t, v, "t", columns()...)
		w.createIndex(t, v, "i", "t", "a")
		w.createIndex(t, v, "i", "t", "a")
		w.createIndex(t, v, "j", "t", "none")
		w.createIndex(t, v, "j", "t", "b")
		w.b.CreateTable(w.l, v.s, "1", columns())
		w.b.CreateIndex(w.l, v.s, "1", "t", "a")
		w.createTable(t, v, "u", columns()...)
		x, _ := w.b.Table(w.l, v.s, "t")
		y := w.b.Indexes(w.l, v.s, x.ID)
		z, _ := w.b.Table(w.l, v.s, "u")
		if x.ID != next+1 || len(y) != 2 || y[0].ID != next+2 || y[1].ID != next+3 || z.ID != next+4 {
			t.Fatalf("round %d: %d, %v, %d", round, x.ID, y, z.ID)
		}
		next += 4
		if round%2 == 0 {
			w.abort(t, v)
		} else {
			w.dropTable(t, v, "t")
			w.dropTable(t, v, "u")
			w.commit(t, v)
		}
		w.prune(t, v.s.Own+1)
		if len(w.b.Tables()) != 0 {
			t.Fatal("tables are left")
		}
	}
}
