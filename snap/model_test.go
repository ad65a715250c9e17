package snap_test

import (
	"slices"
	"testing"

	"lapidary/api"
	"lapidary/clog"
	"lapidary/snap"
)

// world is a log, and by the chapters' words the state of each of its transactions, from 1 on.
type world struct {
	l      *clog.Log
	states []int
}

func fresh(t *testing.T) *world {
	t.Helper()
	l, e := clog.New(1)
	if e != api.OK {
		t.Fatal(e)
	}
	return &world{l: l}
}

func (w *world) begin(t *testing.T) uint64 {
	t.Helper()
	w.states = append(w.states, clog.Running)
	xid, e := w.l.Begin()
	if xid != uint64(len(w.states)) || e != api.OK {
		t.Fatalf("Begin = %d, %d", xid, e)
	}
	return xid
}

func (w *world) commit(t *testing.T, l ...uint64) {
	t.Helper()
	for _, xid := range l {
		w.states[xid-1] = clog.Committed
		if e := w.l.Commit(xid); e != api.OK {
			t.Fatalf("Commit(%d) = %d", xid, e)
		}
	}
}

func (w *world) abort(t *testing.T, l ...uint64) {
	t.Helper()
	for _, xid := range l {
		w.states[xid-1] = clog.Aborted
		if e := w.l.Abort(xid); e != api.OK {
			t.Fatalf("Abort(%d) = %d", xid, e)
		}
	}
}

// runs are n transactions that begin and run.
func runs(t *testing.T, n int) *world {
	t.Helper()
	w := fresh(t)
	for range n {
		w.begin(t)
	}
	return w
}

func (w *world) state(xid uint64) int {
	if xid == 0 || xid > uint64(len(w.states)) {
		return clog.None
	}
	return w.states[xid-1]
}

// of are the transactions that are in a state, rising.
func (w *world) of(state int) []uint64 {
	var l []uint64
	for i, is := range w.states {
		if is == state {
			l = append(l, uint64(i)+1)
		}
	}
	return l
}

// taken is a snapshot, and what was so when it was taken.
type taken struct {
	s         snap.Snapshot
	committed []uint64
}

// take takes a snapshot and holds it against the chapter's.
func (w *world) take(t *testing.T, own uint64) taken {
	t.Helper()
	s := snap.Take(w.l, own)
	want := snap.Snapshot{Own: own, Xmax: uint64(len(w.states)) + 1}
	for _, xid := range w.of(clog.Running) {
		if xid != own {
			want.Running = append(want.Running, xid)
		}
	}
	want.Xmin = slices.Min(append(want.Running, want.Xmax))
	if !same(s, want) {
		t.Fatalf("states %v: Take(%d) = %+v; want %+v", w.states, own, s, want)
	}
	return taken{s, w.of(clog.Committed)}
}

// sees is what a snapshot that was taken of a log sees for ever.
func (k taken) sees(xid uint64) bool {
	return xid == k.s.Own || slices.Contains(k.committed, xid)
}

func (k taken) visible(x api.Tuple) bool {
	return k.sees(x.Xmin) && (x.Xmax == 0 || !k.sees(x.Xmax))
}

func (w *world) free(k taken, x api.Tuple) api.Errno {
	if state := w.state(x.Xmax); x.Xmax != 0 && state != clog.Aborted && x.Xmax != k.s.Own {
		return api.ErrConflict
	}
	if !k.visible(x) {
		return api.ErrState
	}
	return api.OK
}

func (w *world) dead(x api.Tuple, horizon uint64) bool {
	return w.state(x.Xmin) == clog.Aborted || w.state(x.Xmax) == clog.Committed && x.Xmax < horizon
}

// horizon asks for the horizon of snapshots and holds it against the chapter's.
func (w *world) horizon(t *testing.T, l []taken) uint64 {
	t.Helper()
	var all []snap.Snapshot
	var want []uint64
	for _, k := range l {
		all = append(all, k.s)
		want = append(want, k.s.Xmin)
	}
	if len(l) == 0 {
		want = []uint64{uint64(len(w.states)) + 1}
	}
	h := snap.Horizon(w.l, all)
	if h != slices.Min(want) {
		t.Fatalf("Horizon(%+v) = %d; want %d", all, h, slices.Min(want))
	}
	return h
}

// holds holds all that a snapshot tells of transactions and versions against the chapter's.
func (w *world) holds(t *testing.T, k taken) {
	t.Helper()
	last := uint64(len(w.states)) + 2
	for xmin := range last + 1 {
		if got := snap.Sees(w.l, k.s, xmin); got != k.sees(xmin) {
			t.Fatalf("states %v: %+v sees %d: %t", w.states, k.s, xmin, got)
		}
		for xmax := range last + 1 {
			x := version(xmin, xmax)
			if got := snap.Visible(w.l, k.s, x); got != k.visible(x) {
				t.Fatalf("states %v: Visible(%+v, %d-%d) = %t", w.states, k.s, xmin, xmax, got)
			}
			if got, want := snap.Free(w.l, k.s, x), w.free(k, x); got != want {
				t.Fatalf("states %v: Free(%+v, %d-%d) = %d; want %d", w.states, k.s, xmin, xmax, got, want)
			}
		}
	}
}

// deaths are the versions that are dead at a horizon, of those that transactions could have made;
// each Dead is held against the chapter's.
func (w *world) deaths(t *testing.T, horizon uint64) []api.Tuple {
	t.Helper()
	var l []api.Tuple
	last := uint64(len(w.states)) + 2
	for xmin := range last + 1 {
		for xmax := range last + 1 {
			x := version(xmin, xmax)
			got := snap.Dead(w.l, x, horizon)
			if got != w.dead(x, horizon) {
				t.Fatalf("states %v: Dead(%d-%d, %d) = %t", w.states, xmin, xmax, horizon, got)
			}
			if got && xmin > 0 && xmin < last-1 {
				l = append(l, x)
			}
		}
	}
	return l
}

func version(xmin, xmax uint64) api.Tuple {
	return api.Tuple{Row: 1, Xmin: xmin, Xmax: xmax, Next: api.TID{Page: -1, Slot: -1}, Data: []byte{1}}
}

func same(a, b snap.Snapshot) bool {
	return a.Own == b.Own && a.Xmin == b.Xmin && a.Xmax == b.Xmax && slices.Equal(a.Running, b.Running)
}

// dice are numbers by a rule: the same ones in each run.
type dice uint64

// roll is a number of 0 .. n - 1.
func (d *dice) roll(n int) int {
	*d = *d*6364136223846793005 + 1442695040888963407
	return int(uint64(*d) >> 33 % uint64(n))
}
