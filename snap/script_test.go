package snap_test

import (
	"slices"
	"testing"

	"lapidary/api"
	"lapidary/clog"
	"lapidary/snap"
)

// script is transactions that begin, commit and abort, and the snapshots of those that run.
type script struct {
	w    *world
	open []taken // by the transactions that run, rising
	dead map[[2]uint64]api.Tuple
}

func starts(t *testing.T) *script {
	t.Helper()
	return &script{w: fresh(t), dead: map[[2]uint64]api.Tuple{}}
}

func (c *script) begin(t *testing.T) {
	t.Helper()
	c.open = append(c.open, c.w.take(t, c.w.begin(t)))
}

// end ends a transaction that runs: its snapshot is no more.
func (c *script) end(t *testing.T, i int, commit bool) {
	t.Helper()
	if xid := c.open[i].s.Own; commit {
		c.w.commit(t, xid)
	} else {
		c.w.abort(t, xid)
	}
	c.open = slices.Delete(c.open, i, i+1)
}

// check holds P10.2 and P10.3: of all snapshots that there are, each sees what it saw, and none
// sees what was dead at any time till now.
func (c *script) check(t *testing.T) {
	t.Helper()
	horizon := c.w.horizon(t, c.open)
	for _, x := range c.w.deaths(t, horizon) {
		c.dead[[2]uint64{x.Xmin, x.Xmax}] = x
	}
	for _, k := range append(c.open, c.w.take(t, 0)) { // one of nobody's too
		c.w.holds(t, k)
		for _, x := range c.dead {
			if snap.Visible(c.w.l, k.s, x) {
				t.Fatalf("states %v: %d-%d is dead, and %+v sees it", c.w.states, x.Xmin, x.Xmax, k.s)
			}
		}
	}
}

// P10.2, P10.3, P3: all scripts of seven steps.
func TestAllScripts(t *testing.T) {
	var try func(steps []int, left int)
	try = func(steps []int, left int) {
		c := starts(t)
		for _, step := range steps {
			if step == 0 {
				c.begin(t)
			} else {
				c.end(t, (step-1)/2, step%2 == 1)
			}
		}
		c.check(t)
		if left == 0 {
			return
		}
		for step := range 1 + 2*len(c.open) {
			try(append(slices.Clone(steps), step), left-1)
		}
	}
	try(nil, 7)
}

// P10.2, P10.3, P3: long scripts, of which all is held against the chapter between any two steps.
func TestLongScripts(t *testing.T) {
	d := dice(17)
	for round := range 30 {
		c := starts(t)
		for range 40 {
			if n := len(c.open); n == 0 || n < 2+round%6 && d.roll(2) == 0 {
				c.begin(t)
			} else {
				c.end(t, d.roll(n), d.roll(3) > 0)
			}
			c.check(t)
		}
	}
}

// P10.3: what a snapshot of a transaction that is over, or hasn't begun, sees but of Own stays, too.
func TestAnyOwn(t *testing.T) {
	d := dice(23)
	for range 40 {
		w := fresh(t)
		var l []taken
		for range 30 {
			running := w.of(clog.Running)
			switch n := len(running); {
			case n == 0 || d.roll(3) == 0:
				w.begin(t)
			case d.roll(2) == 0:
				w.commit(t, running[d.roll(n)])
			default:
				w.abort(t, running[d.roll(n)])
			}
			l = append(l, w.take(t, uint64(d.roll(len(w.states)+2))))
			for _, k := range l {
				for xid := range uint64(len(w.states) + 2) {
					if got := snap.Sees(w.l, k.s, xid); got != k.sees(xid) {
						t.Fatalf("states %v: %+v sees %d: %t", w.states, k.s, xid, got)
					}
				}
			}
		}
	}
}

// P10.2: the horizon is the farthest one: at the next number a snapshot sees a version that is then told as dead.
func TestHorizonReaches(t *testing.T) {
	w := runs(t, 3)
	w.commit(t, 1)
	k := w.take(t, 3)
	w.commit(t, 2)
	h := w.horizon(t, []taken{k})
	x := version(1, 2)
	if h != 2 || !snap.Visible(w.l, k.s, x) || snap.Dead(w.l, x, h) || !snap.Dead(w.l, x, h+1) {
		t.Errorf("horizon %d", h)
	}
	w.commit(t, 3)
	if h = w.horizon(t, nil); h != 4 || !snap.Dead(w.l, x, h) {
		t.Errorf("horizon %d", h)
	}
}

// P3: of a transaction all versions are seen, or none.
func TestWholeTransactions(t *testing.T) {
	w := runs(t, 2)
	ahead := w.take(t, w.begin(t))
	w.commit(t, 1)
	w.abort(t, 2)
	behind := w.take(t, w.begin(t))
	w.begin(t)
	for range 3 { // 1 put two rows and changed two others, 2 likewise
		for _, c := range []struct {
			k    taken
			seen bool
		}{{ahead, false}, {behind, true}} {
			for _, row := range []uint64{1, 2} {
				made := api.Tuple{Row: row, Xmin: 1}
				aborted := api.Tuple{Row: row, Xmin: 2}
				if snap.Visible(w.l, c.k.s, made) != c.seen || snap.Visible(w.l, c.k.s, aborted) {
					t.Errorf("%+v: row %d", c.k.s, row)
				}
			}
		}
		w.begin(t)
	}
}

// P4: of two that would end a version the first one may, and the other one is told at once, till that is undone.
func TestFirstWins(t *testing.T) {
	w := runs(t, 1)
	w.commit(t, 1)
	free := func(k taken, xmax uint64, want api.Errno) {
		t.Helper()
		if e := snap.Free(w.l, k.s, version(1, xmax)); e != want {
			t.Errorf("Free of %d, ended by %d = %d; want %d", k.s.Own, xmax, e, want)
		}
	}
	two, three := w.take(t, w.begin(t)), w.take(t, w.begin(t))
	four := w.take(t, w.begin(t))
	free(two, 0, api.OK)
	free(three, 0, api.OK)
	free(three, 2, api.ErrConflict)
	free(two, 2, api.ErrState) // it has ended it itself
	free(four, 2, api.ErrConflict)
	w.abort(t, 2)
	free(three, 2, api.OK)
	free(four, 2, api.OK)
	free(four, 3, api.ErrConflict)
	free(three, 3, api.ErrState)
	w.commit(t, 3)
	free(four, 3, api.ErrConflict)
	five := w.take(t, w.begin(t))
	free(five, 3, api.ErrConflict) // it doesn't see it, but that goes behind
	free(five, 2, api.OK)
}
