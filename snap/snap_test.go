package snap_test

import (
	"math"
	"slices"
	"testing"

	"lapidary/api"
	"lapidary/clog"
	"lapidary/snap"
)

// is checks a snapshot.
func is(t *testing.T, s snap.Snapshot, own, xmin, xmax uint64, running ...uint64) {
	t.Helper()
	if want := (snap.Snapshot{Own: own, Xmin: xmin, Xmax: xmax, Running: running}); !same(s, want) {
		t.Errorf("%+v; want %+v", s, want)
	}
}

// The chapter's example.
func TestExample(t *testing.T) {
	w := runs(t, 2)
	s := snap.Take(w.l, 2)
	is(t, s, 2, 1, 3, 1)
	w.commit(t, 1)
	if snap.Sees(w.l, s, 1) {
		t.Error("it sees 1")
	}
	if !snap.Sees(w.l, snap.Take(w.l, 2), 1) {
		t.Error("one that is taken then doesn't see 1")
	}
}

// P10.1: snapshots of logs where none runs, Own alone runs, others run below and above it.
func TestTake(t *testing.T) {
	w := fresh(t)
	is(t, snap.Take(w.l, 0), 0, 1, 1)
	is(t, snap.Take(w.l, 1), 1, 1, 1)
	is(t, snap.Take(w.l, math.MaxUint64), math.MaxUint64, 1, 1)
	w.begin(t)
	is(t, snap.Take(w.l, 1), 1, 2, 2)
	is(t, snap.Take(w.l, 2), 2, 1, 2, 1)
	is(t, snap.Take(w.l, 0), 0, 1, 2, 1)
	for range 4 {
		w.begin(t)
	}
	is(t, snap.Take(w.l, 1), 1, 2, 6, 2, 3, 4, 5)
	is(t, snap.Take(w.l, 3), 3, 1, 6, 1, 2, 4, 5)
	is(t, snap.Take(w.l, 5), 5, 1, 6, 1, 2, 3, 4)
	w.commit(t, 1)
	w.abort(t, 4)
	is(t, snap.Take(w.l, 1), 1, 2, 6, 2, 3, 5)
	is(t, snap.Take(w.l, 2), 2, 3, 6, 3, 5)
	is(t, snap.Take(w.l, 3), 3, 2, 6, 2, 5)
	is(t, snap.Take(w.l, 4), 4, 2, 6, 2, 3, 5)
	is(t, snap.Take(w.l, 6), 6, 2, 6, 2, 3, 5)
	w.commit(t, 2, 3)
	is(t, snap.Take(w.l, 5), 5, 6, 6)
	is(t, snap.Take(w.l, 0), 0, 5, 6, 5)
	w.abort(t, 5)
	is(t, snap.Take(w.l, 5), 5, 6, 6)
	is(t, snap.Take(w.l, 1), 1, 6, 6)
}

// P10.1: a log that doesn't begin at 1, and one whose numbers have ended.
func TestTakeAtBounds(t *testing.T) {
	l, _ := clog.New(1<<40 - 1)
	is(t, snap.Take(l, 1<<40-1), 1<<40-1, 1<<40-1, 1<<40-1)
	l.Begin()
	l.Begin()
	s := snap.Take(l, 1<<40-1)
	is(t, s, 1<<40-1, 1<<40, 1<<40+1, 1<<40)
	l.Commit(1 << 40)
	if snap.Sees(l, s, 1<<40) || !snap.Sees(l, s, 1<<40-1) || snap.Sees(l, s, 1<<40-2) || snap.Sees(l, s, 1<<40+1) || snap.Sees(l, s, 1) {
		t.Error("what it sees is wrong")
	}
	s = snap.Take(l, 1<<40-1)
	is(t, s, 1<<40-1, 1<<40+1, 1<<40+1)
	if !snap.Sees(l, s, 1<<40) || snap.Horizon(l, nil) != 1<<40+1 || !snap.Dead(l, version(5, 1<<40), 1<<40+1) || snap.Dead(l, version(5, 1<<40), 1<<40) {
		t.Error("the last number's transaction isn't told right")
	}
}

// The transactions of the scene, by what became of them, around a snapshot of own.
const (
	committedAhead = 1
	abortedAhead   = 2
	committedSince = 3
	abortedSince   = 4
	runsStill      = 5
	own            = 6
	committedAbove = 7 // numbers above Own that ran when the snapshot was taken
	runsAbove      = 8
	overAbove      = 9 // committed ahead, above Own
	beganBehind    = 10
	committedNew   = 11
	abortedNew     = 12
	notBegun       = 13
)

// scene is a log with each sort of a transaction, and a snapshot of own in the midst of it.
func scene(t *testing.T) (*world, taken) {
	t.Helper()
	w := runs(t, 9)
	w.commit(t, committedAhead, overAbove)
	w.abort(t, abortedAhead)
	k := w.take(t, own)
	is(t, k.s, own, committedSince, 10, committedSince, abortedSince, runsStill, committedAbove, runsAbove)
	for range 3 {
		w.begin(t)
	}
	w.commit(t, committedSince, committedAbove, committedNew)
	w.abort(t, abortedSince, abortedNew)
	return w, k
}

// P10.1: which transactions a snapshot sees.
func TestSees(t *testing.T) {
	w, k := scene(t)
	seen := []uint64{committedAhead, own, overAbove}
	for _, xid := range []uint64{0, 1, 2, 3, 4, 5, 6, 7, 8, 9, 10, 11, 12, 13, 14, 1 << 40, 1<<40 + 1, math.MaxUint64} {
		if got := snap.Sees(w.l, k.s, xid); got != slices.Contains(seen, xid) {
			t.Errorf("Sees(%d) = %t", xid, got)
		}
	}
}

// P10.1: which versions it sees, by who made and who ended them.
func TestVisible(t *testing.T) {
	w, k := scene(t)
	all := []uint64{0, 1, 2, 3, 4, 5, 6, 7, 8, 9, 10, 11, 12, 13, math.MaxUint64}
	ended := []uint64{committedAhead, own, overAbove}
	for _, xmin := range all {
		made := slices.Contains(ended, xmin)
		for _, xmax := range all {
			want := made && !slices.Contains(ended, xmax)
			if got := snap.Visible(w.l, k.s, version(xmin, xmax)); got != want {
				t.Errorf("Visible(%d-%d) = %t", xmin, xmax, got)
			}
		}
	}
}

// P10.1: what may be ended by Own.
func TestFree(t *testing.T) {
	w, k := scene(t)
	for _, xmin := range []uint64{committedAhead, own, overAbove} {
		for xmax, want := range map[uint64]api.Errno{
			0: api.OK, abortedAhead: api.OK, abortedSince: api.OK, abortedNew: api.OK,
			own:            api.ErrState, // ended by itself already
			committedAhead: api.ErrConflict, committedSince: api.ErrConflict, runsStill: api.ErrConflict,
			committedAbove: api.ErrConflict, runsAbove: api.ErrConflict, overAbove: api.ErrConflict,
			beganBehind: api.ErrConflict, committedNew: api.ErrConflict, notBegun: api.ErrConflict, math.MaxUint64: api.ErrConflict,
		} {
			if got := snap.Free(w.l, k.s, version(xmin, xmax)); got != want {
				t.Errorf("Free(%d-%d) = %d; want %d", xmin, xmax, got, want)
			}
		}
	}
	// Of a version that isn't visible a conflict is told ahead.
	for _, xmin := range []uint64{0, abortedAhead, committedSince, abortedSince, runsStill, committedAbove, runsAbove, beganBehind, committedNew, abortedNew, notBegun} {
		for _, xmax := range []uint64{0, own, abortedAhead, abortedSince, abortedNew} {
			if got := snap.Free(w.l, k.s, version(xmin, xmax)); got != api.ErrState {
				t.Errorf("Free(%d-%d) = %d", xmin, xmax, got)
			}
		}
		for _, xmax := range []uint64{committedAhead, committedSince, runsStill, committedNew, beganBehind, notBegun} {
			if got := snap.Free(w.l, k.s, version(xmin, xmax)); got != api.ErrConflict {
				t.Errorf("Free(%d-%d) = %d", xmin, xmax, got)
			}
		}
	}
}

// P10.1: what is dead, below a horizon, at it, and above it.
func TestDead(t *testing.T) {
	w, _ := scene(t)
	horizons := []uint64{0, 1, 2, 3, 4, 5, 6, 7, 8, 9, 10, 11, 12, 13, 1 << 40, math.MaxUint64}
	for _, horizon := range horizons {
		w.deaths(t, horizon)
		for _, xmax := range []uint64{0, own, committedAhead, runsStill, notBegun, abortedAhead} {
			for _, xmin := range []uint64{abortedAhead, abortedSince, abortedNew} {
				if !snap.Dead(w.l, version(xmin, xmax), horizon) {
					t.Errorf("Dead(%d-%d, %d): no", xmin, xmax, horizon)
				}
			}
			for _, xmin := range []uint64{0, committedAhead, committedSince, own, runsStill, beganBehind, notBegun} {
				if xmax != committedAhead && snap.Dead(w.l, version(xmin, xmax), horizon) {
					t.Errorf("Dead(%d-%d, %d): yes", xmin, xmax, horizon)
				}
			}
		}
	}
	for _, xmax := range []uint64{committedAhead, committedSince, committedAbove, overAbove, committedNew} {
		for _, xmin := range []uint64{committedAhead, own, runsStill, xmax} {
			for horizon, want := range map[uint64]bool{xmax - 1: false, xmax: false, xmax + 1: true, xmax + 2: true, 0: false, math.MaxUint64: true} {
				if got := snap.Dead(w.l, version(xmin, xmax), horizon); got != want {
					t.Errorf("Dead(%d-%d, %d) = %t", xmin, xmax, horizon, got)
				}
			}
		}
	}
}

// P10.1: horizons of no snapshots, of one, of some.
func TestHorizon(t *testing.T) {
	w := fresh(t)
	horizon := func(want uint64, l ...snap.Snapshot) {
		t.Helper()
		if h := snap.Horizon(w.l, l); h != want {
			t.Errorf("Horizon(%+v) = %d; want %d", l, h, want)
		}
	}
	horizon(1)
	w.begin(t)
	horizon(2)
	first := snap.Take(w.l, 1)
	horizon(2, first)
	w.begin(t)
	second := snap.Take(w.l, 2)
	horizon(1, second)
	horizon(1, first, second)
	horizon(1, second, first)
	w.commit(t, 1)
	third := snap.Take(w.l, w.begin(t))
	horizon(2, third)
	horizon(1, third, second)
	w.commit(t, 2)
	fourth := snap.Take(w.l, w.begin(t))
	horizon(3, fourth)
	horizon(2, fourth, third)
	horizon(2, third, fourth, third)
	w.commit(t, 3)
	alone := snap.Take(w.l, 4)
	horizon(5, alone)
	horizon(3, alone, fourth)
	horizon(5)
	if h := snap.Horizon(w.l, []snap.Snapshot{}); h != 5 {
		t.Errorf("Horizon of no snapshots = %d", h)
	}
	// What is handed in is taken as it is: Xmin alone tells.
	horizon(0, snap.Snapshot{}, alone)
	horizon(7, snap.Snapshot{Xmin: 7, Xmax: 2, Running: []uint64{1}})
	horizon(9, snap.Snapshot{Xmin: math.MaxUint64}, snap.Snapshot{Xmin: 9, Own: 3})
	horizon(math.MaxUint64, snap.Snapshot{Xmin: math.MaxUint64})
}

// P10.1: snapshots that Take doesn't tell: Running in no order, none, with numbers that never began.
func TestHandMade(t *testing.T) {
	w := runs(t, 6)
	w.commit(t, 1, 2, 3, 5)
	w.abort(t, 4)
	for _, c := range []struct {
		s    snap.Snapshot
		seen []uint64
	}{
		{snap.Snapshot{}, []uint64{0}},
		{snap.Snapshot{Own: 9}, []uint64{9}},
		{snap.Snapshot{Own: 4}, []uint64{4}},
		{snap.Snapshot{Own: 6, Xmax: 7}, []uint64{1, 2, 3, 5, 6}},
		{snap.Snapshot{Own: 9, Xmax: 7}, []uint64{1, 2, 3, 5, 9}},
		{snap.Snapshot{Own: 6, Xmax: 7, Running: []uint64{}}, []uint64{1, 2, 3, 5, 6}},
		{snap.Snapshot{Own: 6, Xmax: 7, Running: []uint64{5, 1, 3}}, []uint64{2, 6}},
		{snap.Snapshot{Own: 6, Xmax: 7, Running: []uint64{3, 5, 1, 5, 3}}, []uint64{2, 6}},
		{snap.Snapshot{Own: 6, Xmax: 7, Running: []uint64{90, 2, 0, 7}}, []uint64{1, 3, 5, 6}},
		{snap.Snapshot{Own: 6, Xmax: 7, Running: []uint64{math.MaxUint64}}, []uint64{1, 2, 3, 5, 6}},
		{snap.Snapshot{Own: 3, Xmax: 7, Running: []uint64{3, 2}}, []uint64{1, 3, 5}},
		{snap.Snapshot{Own: 5, Xmax: 3}, []uint64{1, 2, 5}},
		{snap.Snapshot{Own: 5, Xmin: 6, Xmax: 3, Running: []uint64{1}}, []uint64{2, 5}},
		{snap.Snapshot{Own: 0, Xmin: 1, Xmax: math.MaxUint64}, []uint64{0, 1, 2, 3, 5}},
		{snap.Snapshot{Own: math.MaxUint64, Xmin: 100, Xmax: math.MaxUint64, Running: []uint64{2}}, []uint64{1, 3, 5, math.MaxUint64}},
	} {
		all := []uint64{0, 1, 2, 3, 4, 5, 6, 7, 8, 9, 90, math.MaxUint64}
		for _, xmin := range all {
			made := slices.Contains(c.seen, xmin)
			if got := snap.Sees(w.l, c.s, xmin); got != made {
				t.Errorf("%+v sees %d: %t", c.s, xmin, got)
			}
			for _, xmax := range all {
				want := made && (xmax == 0 || !slices.Contains(c.seen, xmax))
				if got := snap.Visible(w.l, c.s, version(xmin, xmax)); got != want {
					t.Errorf("Visible(%+v, %d-%d) = %t", c.s, xmin, xmax, got)
				}
				free := api.OK
				if xmax != 0 && xmax != 4 && xmax != c.s.Own {
					free = api.ErrConflict
				} else if !want {
					free = api.ErrState
				}
				if got := snap.Free(w.l, c.s, version(xmin, xmax)); got != free {
					t.Errorf("Free(%+v, %d-%d) = %d; want %d", c.s, xmin, xmax, got, free)
				}
			}
		}
	}
}

// P10.1, P1: a nil log is one where nothing began.
func TestNil(t *testing.T) {
	var l *clog.Log
	is(t, snap.Take(l, 0), 0, 0, 0)
	is(t, snap.Take(l, 7), 7, 0, 0)
	is(t, snap.Take(l, math.MaxUint64), math.MaxUint64, 0, 0)
	if h := snap.Horizon(l, nil); h != 0 {
		t.Errorf("Horizon = %d", h)
	}
	if h := snap.Horizon(l, []snap.Snapshot{{Xmin: 9}, {Xmin: 4}}); h != 4 {
		t.Errorf("Horizon = %d", h)
	}
	for _, s := range []snap.Snapshot{{}, {Own: 3}, {Own: 3, Xmin: 2, Xmax: 9, Running: []uint64{2}}, {Xmax: math.MaxUint64}} {
		for _, xmin := range []uint64{0, 1, 2, 3, 8, 9, math.MaxUint64} {
			if got := snap.Sees(l, s, xmin); got != (xmin == s.Own) {
				t.Errorf("%+v sees %d: %t", s, xmin, got)
			}
			for _, xmax := range []uint64{0, 1, 2, 3, 8, 9, math.MaxUint64} {
				visible, free := xmin == s.Own && (xmax == 0 || xmax != s.Own), api.OK
				if xmax != 0 && xmax != s.Own {
					free = api.ErrConflict
				} else if !visible {
					free = api.ErrState
				}
				x := version(xmin, xmax)
				if snap.Visible(l, s, x) != visible || snap.Free(l, s, x) != free || snap.Dead(l, x, 5) || snap.Dead(l, x, math.MaxUint64) {
					t.Errorf("%+v, %d-%d: Visible %t, Free %d, Dead %t", s, xmin, xmax, snap.Visible(l, s, x), snap.Free(l, s, x), snap.Dead(l, x, 5))
				}
			}
		}
	}
}

// Memory: what Take told may be written over, spare room too, and stays as it was told else.
func TestMemoryOfTake(t *testing.T) {
	w := runs(t, 7)
	for _, xid := range []uint64{0, 1, 4, 7, 9} {
		s, other := snap.Take(w.l, xid), snap.Take(w.l, xid)
		want := slices.Clone(s.Running)
		for i := range s.Running[:cap(s.Running)] {
			s.Running[:cap(s.Running)][i] = 77
		}
		if !slices.Equal(other.Running, want) {
			t.Errorf("Take(%d) told %v; now it is %v", xid, want, other.Running)
		}
		w.take(t, xid)
	}
	s := snap.Take(w.l, 3)
	w.commit(t, 1, 3)
	w.abort(t, 7)
	w.begin(t)
	is(t, s, 3, 1, 8, 1, 2, 4, 5, 6, 7)
}

// Memory: what is handed in stays untouched, spare room too.
func TestMemoryHandedIn(t *testing.T) {
	w, _ := scene(t)
	room := []uint64{8, 3, 99, 3, 41, 42}
	s := snap.Snapshot{Own: own, Xmin: 3, Xmax: 10, Running: room[:4]}
	all := []snap.Snapshot{{Xmin: 7, Running: room[:2]}, s, {Xmin: 5}, {Xmin: 1}, {Xmin: 9}}
	data := []byte{1, 2, 3, 4}
	x := api.Tuple{Row: 5, Xmin: 1, Next: api.TID{Page: 3, Slot: 4}, Data: data[:2]}
	for xid := range uint64(14) {
		x.Xmax = xid
		snap.Sees(w.l, s, xid)
		snap.Visible(w.l, s, x)
		snap.Free(w.l, s, x)
		snap.Dead(w.l, x, 9)
		snap.Horizon(w.l, all[:3])
	}
	if !slices.Equal(room, []uint64{8, 3, 99, 3, 41, 42}) || !slices.Equal(data, []byte{1, 2, 3, 4}) || all[3].Xmin != 1 || all[4].Xmin != 9 || all[0].Xmin != 7 || all[2].Xmin != 5 {
		t.Error(room, data, all)
	}
	is(t, all[1], own, 3, 10, 8, 3, 99, 3)
}

// P2: what isn't asked of a version or a snapshot doesn't change the answer, nor does asking.
func TestSameAnswer(t *testing.T) {
	w, k := scene(t)
	for xmin := range uint64(15) {
		for xmax := range uint64(15) {
			x := version(xmin, xmax)
			y := api.Tuple{Row: 1 << 40, Xmin: xmin, Xmax: xmax, Next: api.TID{Page: 7, Slot: 8}, Data: make([]byte, 300)}
			z := k.s
			z.Xmin = math.MaxUint64
			z.Running = append(slices.Clone(z.Running), 4, 3)
			for range 2 {
				if snap.Visible(w.l, k.s, x) != snap.Visible(w.l, z, y) || snap.Free(w.l, k.s, x) != snap.Free(w.l, z, y) || snap.Dead(w.l, x, 4) != snap.Dead(w.l, y, 4) {
					t.Errorf("%d-%d isn't answered the same way", xmin, xmax)
				}
			}
		}
	}
	if w.l.Next() != 13 || !slices.Equal(w.l.All(), []uint64{runsStill, own, runsAbove, beganBehind}) {
		t.Errorf("Next %d, All %v", w.l.Next(), w.l.All())
	}
}
