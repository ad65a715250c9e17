package clog_test

import (
	"math"
	"slices"
	"testing"

	"lapidary/api"
	"lapidary/clog"
)

// The chapter's example.
func TestExample(t *testing.T) {
	l, e := clog.New(5)
	if e != api.OK {
		t.Fatal(e)
	}
	for _, want := range []uint64{5, 6} {
		if xid, e := l.Begin(); xid != want || e != api.OK {
			t.Errorf("Begin = %d, %d; want %d", xid, e, want)
		}
	}
	if e := l.Commit(5); e != api.OK {
		t.Errorf("Commit(5) = %d", e)
	}
	if !slices.Equal(l.All(), []uint64{6}) || l.State(5) != clog.Committed || l.Next() != 7 {
		t.Errorf("All %v, State(5) %d, Next %d", l.All(), l.State(5), l.Next())
	}
}

// P9.1: the states' numbers, and the bound.
func TestNumbers(t *testing.T) {
	if clog.None != 0 || clog.Running != 1 || clog.Committed != 2 || clog.Aborted != 3 || api.MaxXid != 1<<40 {
		t.Error(clog.None, clog.Running, clog.Committed, clog.Aborted, api.MaxXid)
	}
}

// P9.1: first numbers at the bounds and beyond them.
func TestNew(t *testing.T) {
	for _, first := range []uint64{1, 2, 5, 255, 256, 1 << 32, 1<<40 - 1, 1 << 40} {
		p := from(t, first)
		if p.l.Next() != first || len(p.l.All()) != 0 || p.l.State(first) != clog.None {
			t.Errorf("New(%d): Next %d, All %v, State %d", first, p.l.Next(), p.l.All(), p.l.State(first))
		}
		for _, xid := range p.beyond() {
			p.refuses(t, xid)
		}
	}
	for _, first := range []uint64{0, 1<<40 + 1, 1<<40 + 2, 1 << 41, 1 << 63, math.MaxUint64} {
		if l, e := clog.New(first); l != nil || e != api.ErrArg {
			t.Errorf("New(%d) = %v, %d", first, l, e)
		}
	}
}

// P9.1: numbers rise by one, till they end: then no more begin, but what runs can be ended.
func TestNumbersEnd(t *testing.T) {
	for left := range uint64(5) {
		p := from(t, 1<<40-left)
		for range left + 1 {
			p.begins(t)
			p.holds(t)
		}
		full := func() {
			t.Helper()
			for range 3 {
				if xid, e := p.l.Begin(); xid != 0 || e != api.ErrFull {
					t.Errorf("Begin = %d, %d", xid, e)
				}
				if p.l.Next() != 1<<40+1 {
					t.Errorf("Next = %d", p.l.Next())
				}
				p.holds(t)
			}
		}
		full()
		for _, xid := range p.beyond() {
			p.refuses(t, xid)
		}
		for i := range left + 1 {
			if i%2 == 0 {
				p.commits(t, 1<<40-i)
			} else {
				p.aborts(t, 1<<40-i)
			}
			p.holds(t)
			p.refuses(t, 1<<40-i)
			full()
		}
		if len(p.l.All()) != 0 || p.l.State(1<<40) != clog.Committed {
			t.Errorf("All %v, State %d", p.l.All(), p.l.State(1<<40))
		}
	}
}

// P9.1: what is over stays what it is; a transaction that hasn't begun can't be ended ahead.
func TestEnd(t *testing.T) {
	for _, first := range []uint64{1, 7, 1<<40 - 9} {
		p := from(t, first)
		p.refuses(t, first)
		for range 4 {
			p.begins(t)
		}
		p.holds(t)
		p.commits(t, first+1)
		p.holds(t)
		p.aborts(t, first+2)
		p.holds(t)
		for _, xid := range append(p.beyond(), first+1, first+2) {
			p.refuses(t, xid)
		}
		for i, want := range []int{clog.Running, clog.Committed, clog.Aborted, clog.Running, clog.None} {
			if xid := first + uint64(i); p.l.State(xid) != want {
				t.Errorf("State(%d) = %d; want %d", xid, p.l.State(xid), want)
			}
		}
		p.refuses(t, first+4)
		if p.begins(t) != first+4 || p.l.State(first+4) != clog.Running {
			t.Errorf("State(%d) = %d", first+4, p.l.State(first+4))
		}
		p.aborts(t, first+4)
		p.commits(t, first)
		p.aborts(t, first+3)
		p.holds(t)
		if len(p.l.All()) != 0 || p.l.Next() != first+5 {
			t.Errorf("All %v, Next %d", p.l.All(), p.l.Next())
		}
	}
}

// P9.1: those that run are told rising, in whichever order the others end.
func TestAll(t *testing.T) {
	d := dice(3)
	for n := range 40 {
		p := from(t, uint64(1+d.roll(90)))
		for range n {
			p.begins(t)
		}
		for i, k := range d.shuffled(n) {
			xid := p.m.first + uint64(k)
			if d.roll(2) == 0 {
				p.commits(t, xid)
			} else {
				p.aborts(t, xid)
			}
			if i%5 == 4 {
				p.begins(t)
			}
			p.holds(t)
		}
	}
}

// P9.1: a nil log, at all arguments.
func TestNil(t *testing.T) {
	var l *clog.Log
	for _, xid := range []uint64{0, 1, 2, 5, 1 << 40, 1<<40 + 1, math.MaxUint64} {
		if e := l.Commit(xid); e != api.ErrNone {
			t.Errorf("Commit(%d) = %d", xid, e)
		}
		if e := l.Abort(xid); e != api.ErrNone {
			t.Errorf("Abort(%d) = %d", xid, e)
		}
		if l.State(xid) != clog.None {
			t.Errorf("State(%d) = %d", xid, l.State(xid))
		}
	}
	for range 2 {
		if xid, e := l.Begin(); xid != 0 || e != api.ErrNone {
			t.Errorf("Begin = %d, %d", xid, e)
		}
		if l.Next() != 0 || len(l.All()) != 0 {
			t.Errorf("Next %d, All %v", l.Next(), l.All())
		}
	}
}

// Memory: what All told may be written over, spare room too, and stays as it was told else.
func TestMemory(t *testing.T) {
	p := from(t, 3)
	for range 6 {
		p.begins(t)
	}
	told := p.l.All()
	want := slices.Clone(told)
	p.commits(t, 4)
	p.aborts(t, 3)
	p.begins(t)
	if !slices.Equal(told, want) {
		t.Errorf("All told %v; now it is %v", want, told)
	}
	for range 3 {
		l, other := p.l.All(), p.l.All()
		for i := range l[:cap(l)] {
			l[:cap(l)][i] = 77
		}
		if !slices.Equal(other, p.m.all()) {
			t.Errorf("All told %v; now it is %v", p.m.all(), other)
		}
		p.holds(t)
		p.begins(t)
		p.holds(t)
	}
}

// P9.1: a log of many transactions, of which some run from its beginning on.
func TestMany(t *testing.T) {
	p := from(t, 1)
	for range 3 {
		p.begins(t)
	}
	for i := range 20000 {
		xid := p.begins(t)
		if i%3 == 0 {
			p.aborts(t, xid)
		} else if i%7 != 0 {
			p.commits(t, xid-uint64(i%2))
		}
		if i%977 == 0 {
			p.holds(t)
		}
	}
	p.commits(t, 2)
	p.holds(t)
}

// P9.1, P1, P2: whatever logs are told, each tells what it was told itself.
func TestWalk(t *testing.T) {
	d := dice(11)
	for round := range 60 {
		firsts := []uint64{1, 2, 1 << 20, 1<<40 - 30, 1<<40 - 3, 1 << 40}
		l := []pair{from(t, firsts[d.roll(6)]), from(t, firsts[round%6]), from(t, 1)}
		for range 150 {
			p := l[d.roll(3)]
			xid := p.m.first + uint64(d.roll(len(p.m.states)+3)) - 1
			switch d.roll(5) {
			case 0, 1:
				p.begins(t)
			case 2:
				p.commits(t, xid)
			case 3:
				p.aborts(t, xid)
			default:
				p.commits(t, p.beyond()[d.roll(10)])
			}
			for _, p := range l {
				p.holds(t)
			}
		}
	}
}
