package book

import (
	"slices"

	"lapidary/api"
	"lapidary/clog"
	"lapidary/snap"
)

// Name tells whether a text is a name: a small letter or _, then small letters, digits, _.
func Name(s string) bool {
	if len(s) == 0 || len(s) > api.MaxName {
		return false
	}
	for i := range len(s) {
		c := s[i]
		letter := c == '_' || 'a' <= c && c <= 'z'
		digit := '0' <= c && c <= '9'
		if !letter && (i == 0 || !digit) {
			return false
		}
	}
	return true
}

// right tells whether a table may have these columns.
func right(columns []api.Column) bool {
	if len(columns) == 0 || len(columns) > api.MaxColumns {
		return false
	}
	for i, c := range columns {
		if !Name(c.Name) || c.Kind < api.Int || c.Kind > api.Bool || place(columns, c.Name) < i {
			return false
		}
	}
	return true
}

// place is that of the first column of a name; -1: there is none.
func place(columns []api.Column, name string) int {
	return slices.IndexFunc(columns, func(c api.Column) bool { return c.Name == name })
}

// taken tells why a name can't be given to one more: ErrExists, ErrConflict, in this order.
func (b *Book) taken(l *clog.Log, s snap.Snapshot, name string) api.Errno {
	e := api.OK
	for _, x := range b.entries() {
		switch {
		case x.named(l, s, name):
			return api.ErrExists
		case x.name == name && x.alive(l) && !x.droppedBy(s.Own):
			e = api.ErrConflict
		}
	}
	return e
}

// entries are those of tables and of indexes: both share one set of names.
func (b *Book) entries() []*entry {
	var all []*entry
	for _, t := range b.tables {
		all = append(all, &t.entry)
	}
	for _, x := range b.indexes {
		all = append(all, &x.entry)
	}
	return all
}
