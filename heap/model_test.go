package heap_test

import (
	"bytes"
	"math"
	"slices"
	"testing"

	"lapidary/api"
	"lapidary/heap"
)

func none() api.TID { return api.TID{Page: -1, Slot: -1} }

func tid(page, slot int) api.TID { return api.TID{Page: page, Slot: slot} }

// model is a heap as the chapter tells it: of each page the slots, nil: free.
type model struct {
	left  *int // of the pool; nil: there is no pool
	pages [][]*api.Tuple
}

func rightStamp(xmax uint64, n api.TID) bool {
	inside := 0 <= n.Page && n.Page <= 65535 && 0 <= n.Slot && n.Slot <= 65534
	return xmax <= 1<<40 && (n == none() || inside)
}

func rightTuple(x api.Tuple) bool {
	return x.Row <= 1<<40 && x.Xmin <= 1<<40 && rightStamp(x.Xmax, x.Next) && len(x.Data) <= 200
}

// roomOf is how many bytes of Data one more version may have on a page of these slots.
func roomOf(slots []*api.Tuple) int {
	room := 512 - 4 - 4*len(slots) - 30
	if !slices.Contains(slots, nil) {
		room -= 4
	}
	for _, x := range slots {
		if x != nil {
			room -= 30 + len(x.Data)
		}
	}
	return room
}

func (m *model) insert(x api.Tuple) (api.TID, api.Errno) {
	if !rightTuple(x) {
		return api.TID{}, api.ErrForm
	}
	page := slices.IndexFunc(m.pages, func(slots []*api.Tuple) bool { return roomOf(slots) >= len(x.Data) })
	if page < 0 {
		if m.left == nil || *m.left == 0 {
			return api.TID{}, api.ErrFull
		}
		*m.left--
		page = len(m.pages)
		m.pages = append(m.pages, nil)
	}
	slot := slices.Index(m.pages[page], nil)
	if slot < 0 {
		slot = len(m.pages[page])
		m.pages[page] = append(m.pages[page], nil)
	}
	x.Data = bytes.Clone(x.Data)
	m.pages[page][slot] = &x
	return tid(page, slot), api.OK
}

// at is the version at a place; nil: nothing is there.
func (m *model) at(at api.TID) *api.Tuple {
	if at.Page < 0 || at.Page >= len(m.pages) || at.Slot < 0 || at.Slot >= len(m.pages[at.Page]) {
		return nil
	}
	return m.pages[at.Page][at.Slot]
}

func (m *model) stamp(at api.TID, xmax uint64, next api.TID) api.Errno {
	if !rightStamp(xmax, next) {
		return api.ErrForm
	}
	x := m.at(at)
	if x == nil {
		return api.ErrNone
	}
	x.Xmax, x.Next = xmax, next
	return api.OK
}

func (m *model) free(at api.TID) api.Errno {
	if m.at(at) == nil {
		return api.ErrNone
	}
	slots := m.pages[at.Page]
	slots[at.Slot] = nil
	for len(slots) > 0 && slots[len(slots)-1] == nil {
		slots = slots[:len(slots)-1]
	}
	m.pages[at.Page] = slots
	return api.OK
}

func (m *model) page(n int) []api.TID {
	var l []api.TID
	if n < 0 || n >= len(m.pages) {
		return nil
	}
	for slot, x := range m.pages[n] {
		if x != nil {
			l = append(l, tid(n, slot))
		}
	}
	return l
}

func (m *model) chain(at api.TID) []api.TID {
	var l []api.TID
	for x := m.at(at); x != nil && !slices.Contains(l, at); x = m.at(at) {
		l = append(l, at)
		at = x.Next
	}
	return l
}

func (m *model) drop() int {
	n := len(m.pages)
	if n > 0 {
		*m.left += n
	}
	m.pages = nil
	return n
}

// pair is a heap, and what it ought to be.
type pair struct {
	h *heap.Heap
	m *model
}

func sameTuple(a, b api.Tuple) bool {
	return a.Row == b.Row && a.Xmin == b.Xmin && a.Xmax == b.Xmax && a.Next == b.Next && bytes.Equal(a.Data, b.Data)
}

// pool is one of so many pages.
func pool(t *testing.T, pages int) *heap.Pool {
	t.Helper()
	p, e := heap.NewPool(pages)
	if e != api.OK || p == nil || p.Left() != pages {
		t.Fatalf("NewPool(%d) = %v, %d, Left %d", pages, p, e, p.Left())
	}
	return p
}

// pairs are heaps of one pool of so many pages.
func pairs(t *testing.T, pages, heaps int) (*heap.Pool, []pair) {
	t.Helper()
	p := pool(t, pages)
	l := make([]pair, heaps)
	for i := range l {
		l[i] = pair{heap.New(p), &model{left: &pages}}
	}
	return p, l
}

// alone is a heap that has a pool of so many pages for itself.
func alone(t *testing.T, pages int) pair {
	t.Helper()
	_, l := pairs(t, pages, 1)
	return l[0]
}

// puts tells a heap to take a version in, and holds the answer against the chapter's.
func (p pair) puts(t *testing.T, x api.Tuple) {
	t.Helper()
	want, wantE := p.m.insert(x)
	if at, e := p.h.Insert(x); at != want || e != wantE {
		t.Fatalf("Insert(%+v) = %v, %d; want %v, %d", x, at, e, want, wantE)
	}
}

func (p pair) stamps(t *testing.T, at api.TID, xmax uint64, next api.TID) {
	t.Helper()
	if e, want := p.h.Stamp(at, xmax, next), p.m.stamp(at, xmax, next); e != want {
		t.Fatalf("Stamp(%v, %d, %v) = %d; want %d", at, xmax, next, e, want)
	}
}

func (p pair) frees(t *testing.T, at api.TID) {
	t.Helper()
	if e, want := p.h.Free(at), p.m.free(at); e != want {
		t.Fatalf("Free(%v) = %d; want %d", at, e, want)
	}
}

func (p pair) drops(t *testing.T) {
	t.Helper()
	if n, want := p.h.Drop(), p.m.drop(); n != want {
		t.Fatalf("Drop = %d; want %d", n, want)
	}
}

func (p pair) chains(t *testing.T, at api.TID) {
	t.Helper()
	if l, want := p.h.Chain(at), p.m.chain(at); !slices.Equal(l, want) {
		t.Fatalf("Chain(%v) = %v; want %v", at, l, want)
	}
}

// gets holds the version at a place against the chapter's.
func (p pair) gets(t *testing.T, at api.TID) {
	t.Helper()
	got, ok := p.h.Get(at)
	want := p.m.at(at)
	if ok != (want != nil) || want != nil && !sameTuple(got, *want) || want == nil && !sameTuple(got, api.Tuple{}) {
		t.Fatalf("Get(%v) = %+v, %t; want %+v", at, got, ok, want)
	}
}

// holds checks that all that the heap tells is what the chapter says.
func (p pair) holds(t *testing.T) {
	t.Helper()
	used := 0
	for n := -2; n < len(p.m.pages)+2; n++ {
		want := p.m.page(n)
		used += len(want)
		if l := p.h.Page(n); !slices.Equal(l, want) {
			t.Fatalf("Page(%d) = %v; want %v", n, l, want)
		}
		slots := 1
		if n >= 0 && n < len(p.m.pages) {
			slots = len(p.m.pages[n]) + 1
		}
		for slot := -1; slot <= slots; slot++ {
			p.gets(t, tid(n, slot))
			p.chains(t, tid(n, slot))
		}
	}
	for _, n := range []int{math.MinInt, api.MaxPages, math.MaxInt} {
		if l := p.h.Page(n); len(l) != 0 {
			t.Fatalf("Page(%d) = %v", n, l)
		}
	}
	if p.h.Pages() != len(p.m.pages) || p.h.Used() != used {
		t.Fatalf("Pages %d, Used %d; want %d, %d", p.h.Pages(), p.h.Used(), len(p.m.pages), used)
	}
}

// dice are numbers by a rule: the same ones in each run.
type dice uint64

// roll is a number of 0 .. n - 1.
func (d *dice) roll(n int) int {
	*d = *d*6364136223846793005 + 1442695040888963407
	return int(uint64(*d) >> 33 % uint64(n))
}

func (d *dice) of(l ...int) int { return l[d.roll(len(l))] }

func (d *dice) xid() uint64 {
	return uint64(d.of(0, 1, d.roll(1<<20), 1<<32+d.roll(9), 1<<40, 1<<40, d.of(1<<40, 1<<40, 1<<40+1)))
}

// place is one in the heap or near it.
func (d *dice) place(m *model) api.TID {
	page := d.roll(len(m.pages)+2) - 1
	return tid(page, d.roll(8)-1)
}

// next is a Next: mostly where something is, so that chains come about.
func (d *dice) next(m *model) api.TID {
	switch d.roll(8) {
	case 0:
		return none()
	case 1:
		return tid(d.of(0, 65535, 65535, d.of(65535, 65536, -1)), d.of(0, 65534, 65534, d.of(65534, 65535, -1)))
	}
	return tid(max(d.roll(len(m.pages)+1)-1, 0), d.roll(5))
}

func (d *dice) tuple(m *model, most int) api.Tuple {
	data := make([]byte, d.roll(most+1))
	for i := range data {
		data[i] = byte(d.roll(256))
	}
	return api.Tuple{Row: d.xid(), Xmin: d.xid(), Xmax: d.xid(), Next: d.next(m), Data: data}
}
