package clog_test

import (
	"math"
	"slices"
	"testing"

	"lapidary/api"
	"lapidary/clog"
)

// model is a log by the chapter's words: the state of each transaction from the first one on.
type model struct {
	first  uint64
	states []int
}

func (m *model) next() uint64 { return m.first + uint64(len(m.states)) }

func (m *model) begin() (uint64, api.Errno) {
	xid := m.next()
	if xid > 1<<40 {
		return 0, api.ErrFull
	}
	m.states = append(m.states, clog.Running)
	return xid, api.OK
}

func (m *model) state(xid uint64) int {
	if xid < m.first || xid >= m.next() {
		return clog.None
	}
	return m.states[xid-m.first]
}

func (m *model) end(xid uint64, state int) api.Errno {
	if m.state(xid) != clog.Running {
		return api.ErrNone
	}
	m.states[xid-m.first] = state
	return api.OK
}

func (m *model) all() []uint64 {
	var l []uint64
	for i, state := range m.states {
		if state == clog.Running {
			l = append(l, m.first+uint64(i))
		}
	}
	return l
}

// pair is a log, and what the chapter says that it is.
type pair struct {
	l *clog.Log
	m *model
}

// from is a log from a first transaction on.
func from(t *testing.T, first uint64) pair {
	t.Helper()
	l, e := clog.New(first)
	if e != api.OK || l == nil {
		t.Fatalf("New(%d) = %v, %d", first, l, e)
	}
	p := pair{l, &model{first: first}}
	p.holds(t)
	return p
}

func (p pair) begins(t *testing.T) uint64 {
	t.Helper()
	want, wantE := p.m.begin()
	xid, e := p.l.Begin()
	if xid != want || e != wantE {
		t.Fatalf("Begin = %d, %d; want %d, %d", xid, e, want, wantE)
	}
	return xid
}

func (p pair) commits(t *testing.T, xid uint64) {
	t.Helper()
	if e, want := p.l.Commit(xid), p.m.end(xid, clog.Committed); e != want {
		t.Fatalf("Commit(%d) = %d; want %d", xid, e, want)
	}
}

func (p pair) aborts(t *testing.T, xid uint64) {
	t.Helper()
	if e, want := p.l.Abort(xid), p.m.end(xid, clog.Aborted); e != want {
		t.Fatalf("Abort(%d) = %d; want %d", xid, e, want)
	}
}

// refuses checks that nothing can be done with a transaction that doesn't run, and that nothing has changed.
func (p pair) refuses(t *testing.T, xid uint64) {
	t.Helper()
	if e := p.l.Commit(xid); e != api.ErrNone {
		t.Errorf("Commit(%d) = %d", xid, e)
	}
	p.holds(t)
	if e := p.l.Abort(xid); e != api.ErrNone {
		t.Errorf("Abort(%d) = %d", xid, e)
	}
	p.holds(t)
}

// beyond are numbers that no transaction of the log has.
func (p pair) beyond() []uint64 {
	return []uint64{0, p.m.first - 1, p.m.first / 2, p.m.next(), p.m.next() + 1, p.m.next() + 1000, 1<<40 + 1, 1 << 41, 1 << 63, math.MaxUint64}
}

// holds checks that all that the log tells is what the chapter says.
func (p pair) holds(t *testing.T) {
	t.Helper()
	if p.l.Next() != p.m.next() {
		t.Fatalf("Next = %d; want %d", p.l.Next(), p.m.next())
	}
	if l, want := p.l.All(), p.m.all(); !slices.Equal(l, want) {
		t.Fatalf("All = %v; want %v", l, want)
	}
	for i, want := range p.m.states {
		if xid := p.m.first + uint64(i); p.l.State(xid) != want {
			t.Fatalf("State(%d) = %d; want %d", xid, p.l.State(xid), want)
		}
	}
	for _, xid := range p.beyond() {
		if want := p.m.state(xid); p.l.State(xid) != want {
			t.Fatalf("State(%d) = %d; want %d", xid, p.l.State(xid), want)
		}
	}
}

// dice are numbers by a rule: the same ones in each run.
type dice uint64

// roll is a number of 0 .. n - 1.
func (d *dice) roll(n int) int {
	*d = *d*6364136223846793005 + 1442695040888963407
	return int(uint64(*d) >> 33 % uint64(n))
}

// shuffled are the numbers 0 .. n - 1 in an order by a rule.
func (d *dice) shuffled(n int) []int {
	l := make([]int, n)
	for i := range l {
		k := d.roll(i + 1)
		l[i] = l[k]
		l[k] = i
	}
	return l
}
