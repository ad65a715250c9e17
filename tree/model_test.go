package tree_test

import (
	"bytes"
	"math"
	"math/bits"
	"slices"
	"testing"

	"lapidary/api"
	"lapidary/tree"
)

func tid(page, slot int) api.TID { return api.TID{Page: page, Slot: slot} }

func entry(key string, page, slot int) tree.Entry {
	return tree.Entry{Key: []byte(key), At: tid(page, slot)}
}

// model is a tree as the chapter tells it: its entries, in order.
type model struct {
	l []tree.Entry
}

func less(a, b tree.Entry) bool {
	switch {
	case string(a.Key) != string(b.Key):
		return string(a.Key) < string(b.Key)
	case a.At.Page != b.At.Page:
		return a.At.Page < b.At.Page
	}
	return a.At.Slot < b.At.Slot
}

func same(a, b tree.Entry) bool {
	return bytes.Equal(a.Key, b.Key) && a.At == b.At
}

// place is how many entries stand ahead of e, and whether e is there.
func (m *model) place(e tree.Entry) (int, bool) {
	low, high := 0, len(m.l)
	for low < high {
		mid := (low + high) / 2
		if less(m.l[mid], e) {
			low = mid + 1
		} else {
			high = mid
		}
	}
	return low, low < len(m.l) && same(m.l[low], e)
}

func (m *model) insert(e tree.Entry) api.Errno {
	at, there := m.place(e)
	switch {
	case len(e.Key) > 600:
		return api.ErrLong
	case there:
		return api.ErrExists
	}
	e.Key = bytes.Clone(e.Key)
	m.l = slices.Insert(m.l, at, e)
	return api.OK
}

func (m *model) remove(e tree.Entry) api.Errno {
	at, there := m.place(e)
	if !there {
		return api.ErrNone
	}
	m.l = slices.Delete(m.l, at, at+1)
	return api.OK
}

func (m *model) prune(l []api.TID) int {
	n := len(m.l)
	m.l = slices.DeleteFunc(m.l, func(e tree.Entry) bool { return slices.Contains(l, e.At) })
	return n - len(m.l)
}

func (m *model) scan(from, to []byte) []tree.Entry {
	var l []tree.Entry
	for _, e := range m.l {
		if string(e.Key) >= string(from) && (len(to) == 0 || string(e.Key) < string(to)) {
			l = append(l, e)
		}
	}
	return l
}

// rightHeight tells whether a tree of n entries may be so high: at most Fan parts of a node bound it below.
func rightHeight(n, height int) bool {
	if n < 2 {
		return height == 1
	}
	takes := 1
	for range height {
		takes = min(takes*api.Fan, n)
	}
	return height >= 1 && height <= bits.Len(uint(n)) && takes >= n
}

// pair is a tree, and what it ought to be.
type pair struct {
	x *tree.Tree
	m *model
}

// fresh is a tree without entries.
func fresh() pair {
	return pair{tree.New(), &model{}}
}

// of is a tree of these entries, put in one behind the other.
func of(t *testing.T, l ...tree.Entry) pair {
	t.Helper()
	p := fresh()
	for _, e := range l {
		p.puts(t, e)
	}
	return p
}

// puts tells a tree to take an entry in, and holds the answer against the chapter's.
func (p pair) puts(t *testing.T, e tree.Entry) {
	t.Helper()
	if got, want := p.x.Insert(e), p.m.insert(e); got != want {
		t.Fatalf("%d entries: Insert(%v) = %d; want %d", len(p.m.l), e, got, want)
	}
	p.counts(t)
}

// takes tells a tree to take an entry out.
func (p pair) takes(t *testing.T, e tree.Entry) {
	t.Helper()
	if got, want := p.x.Delete(e), p.m.remove(e); got != want {
		t.Fatalf("%d entries: Delete(%v) = %d; want %d", len(p.m.l), e, got, want)
	}
	p.counts(t)
}

func (p pair) prunes(t *testing.T, l ...api.TID) {
	t.Helper()
	if got, want := p.x.Prune(l), p.m.prune(l); got != want {
		t.Fatalf("Prune(%v) = %d; want %d", l, got, want)
	}
	p.counts(t)
}

// refuses checks an error of Insert, and that nothing has changed.
func (p pair) refuses(t *testing.T, e tree.Entry, want api.Errno) {
	t.Helper()
	height := p.x.Height()
	if got := p.x.Insert(e); got != want {
		t.Fatalf("%d entries: Insert(%v) = %d; want %d", len(p.m.l), e, got, want)
	}
	p.stays(t, height)
}

// lacks checks that Delete finds no such entry, and that nothing has changed.
func (p pair) lacks(t *testing.T, e tree.Entry) {
	t.Helper()
	height := p.x.Height()
	if got := p.x.Delete(e); got != api.ErrNone {
		t.Fatalf("%d entries: Delete(%v) = %d", len(p.m.l), e, got)
	}
	p.stays(t, height)
}

func (p pair) stays(t *testing.T, height int) {
	t.Helper()
	if p.x.Height() != height {
		t.Fatalf("Height = %d; it was %d", p.x.Height(), height)
	}
	p.holds(t)
}

// counts checks how many entries and how high a tree says that it is.
func (p pair) counts(t *testing.T) {
	t.Helper()
	if n := len(p.m.l); p.x.Len() != n || !rightHeight(n, p.x.Height()) {
		t.Fatalf("%d entries: Len %d, Height %d", n, p.x.Len(), p.x.Height())
	}
}

func (p pair) scans(t *testing.T, from, to []byte) {
	t.Helper()
	got, want := p.x.Scan(from, to), p.m.scan(from, to)
	if !slices.EqualFunc(got, want, same) {
		t.Fatalf("%d entries: Scan(%v, %v) = %v; want %v", len(p.m.l), from, to, got, want)
	}
}

// holds checks that all that the tree tells is what the chapter says.
func (p pair) holds(t *testing.T) {
	t.Helper()
	p.counts(t)
	p.scans(t, nil, nil)
	p.scans(t, []byte{}, []byte{})
}

// dice are numbers by a rule: the same ones in each run.
type dice uint64

// roll is a number of 0 .. n - 1.
func (d *dice) roll(n int) int {
	*d = *d*6364136223846793005 + 1442695040888963407
	return int(uint64(*d) >> 33 % uint64(n))
}

func (d *dice) of(l ...int) int { return l[d.roll(len(l))] }

// shuffled are the numbers 0 .. n - 1, in another order.
func (d *dice) shuffled(n int) []int {
	l := make([]int, n)
	for i := range l {
		k := d.roll(i + 1)
		l[i] = l[k]
		l[k] = i
	}
	return l
}

// key is one of few, so that they meet, of which many are the beginning of another one.
func (d *dice) key() []byte {
	p := make([]byte, d.of(0, 1, 1, 2, 2, 3, d.of(4, 599, 600)))
	for i := range p {
		p[i] = byte(d.of(0, 1, 127, 128, 255))
	}
	return p
}

func (d *dice) place() api.TID {
	return tid(d.of(0, 0, 1, 2, 255, d.of(-1, math.MinInt, math.MaxInt)), d.of(0, 1, 2, 13, d.of(-1, math.MinInt, math.MaxInt)))
}
