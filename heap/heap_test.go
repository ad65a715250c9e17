package heap_test

import (
	"bytes"
	"math"
	"slices"
	"testing"

	"lapidary/api"
	"lapidary/heap"
)

// plain is a version with n bytes of Data.
func plain(n int) api.Tuple {
	return api.Tuple{Row: uint64(n), Xmin: 3, Next: none(), Data: bytes.Repeat([]byte{byte(n + 1)}, n)}
}

// goes checks where a version of n bytes of Data goes.
func (p pair) goes(t *testing.T, n int, want api.TID) {
	t.Helper()
	p.m.insert(plain(n))
	if at, e := p.h.Insert(plain(n)); at != want || e != api.OK {
		t.Fatalf("Insert of %d bytes = %v, %d; want %v", n, at, e, want)
	}
	p.holds(t)
}

// freed checks that the version at a place is there, and takes it out.
func (p pair) freed(t *testing.T, at api.TID) {
	t.Helper()
	p.m.free(at)
	if e := p.h.Free(at); e != api.OK {
		t.Fatalf("Free(%v) = %d", at, e)
	}
	p.holds(t)
}

// refuses checks Insert's error, and that nothing has changed.
func (p pair) refuses(t *testing.T, x api.Tuple, want api.Errno) {
	t.Helper()
	if at, e := p.h.Insert(x); at != (api.TID{}) || e != want {
		t.Errorf("Insert(%+v) = %v, %d; want %d", x, at, e, want)
	}
	p.holds(t)
}

// left checks how many pages of a pool are nobody's.
func left(t *testing.T, p *heap.Pool, want int) {
	t.Helper()
	if p.Left() != want {
		t.Errorf("Left = %d; want %d", p.Left(), want)
	}
}

// wrong are versions that aren't right.
func wrong() []api.Tuple {
	at := func(page, slot int) api.Tuple { return api.Tuple{Next: tid(page, slot)} }
	return []api.Tuple{
		{Row: 1<<40 + 1, Next: none()}, {Xmin: 1<<40 + 1, Next: none()}, {Xmax: 1<<40 + 1, Next: none()},
		{Row: math.MaxUint64, Next: none()}, {Xmin: math.MaxUint64, Next: none()}, {Xmax: math.MaxUint64, Next: none()},
		at(-1, 0), at(0, -1), at(-2, -2), at(65536, 0), at(0, 65535), at(math.MinInt, 0), at(0, math.MaxInt), at(1<<32, 1<<32),
		{Next: none(), Data: make([]byte, 201)}, {Next: none(), Data: make([]byte, 474)}, {Next: none(), Data: make([]byte, 475)}, {Next: none(), Data: make([]byte, 70000)},
		{Row: 1<<40 + 1, Next: none(), Data: make([]byte, 200)},
	}
}

// nowhere are places of a page or a slot that there can't be in a heap of so many pages.
func nowhere(pages int) []api.TID {
	return []api.TID{
		none(), tid(-1, 0), tid(-2, 0), tid(math.MinInt, 0), tid(pages, 0), tid(pages+1, 0), tid(255, 13), tid(256, 0), tid(65535, 0), tid(math.MaxInt, 0), tid(1<<32, 0),
		tid(0, -1), tid(0, -2), tid(0, math.MinInt), tid(0, 100), tid(0, 65534), tid(0, 65535), tid(0, 1<<32), tid(0, math.MaxInt), tid(math.MinInt, math.MaxInt),
	}
}

// P7.1: pools at the bounds and beyond them.
func TestNewPool(t *testing.T) {
	for _, n := range []int{0, 1, 2, 255, api.MaxPages} {
		pool(t, n)
	}
	for _, n := range []int{-1, -2, math.MinInt, 257, 258, 1 << 32, math.MaxInt} {
		if p, e := heap.NewPool(n); p != nil || e != api.ErrArg {
			t.Errorf("NewPool(%d) = %v, %d", n, p, e)
		}
	}
}

// P7.1, P7.2: a new heap, and that it takes no page ahead.
func TestNew(t *testing.T) {
	p, l := pairs(t, 2, 2)
	for _, x := range l {
		x.holds(t)
		x.drops(t)
		x.holds(t)
	}
	left(t, p, 2)
}

// The chapter's example.
func TestExample(t *testing.T) {
	p, l := pairs(t, 1, 1)
	h := l[0]
	h.goes(t, 200, tid(0, 0))
	h.goes(t, 200, tid(0, 1))
	left(t, p, 0)
	h.refuses(t, plain(200), api.ErrFull)
	h.freed(t, tid(0, 0))
	h.goes(t, 200, tid(0, 0))
	h.refuses(t, plain(200), api.ErrFull)
	h.freed(t, tid(0, 1))
	h.goes(t, 200, tid(0, 1))
}

// P7.1: the least page that has room takes a version, be it in front of the last one or not.
func TestLeastPage(t *testing.T) {
	p, l := pairs(t, 5, 1)
	h := l[0]
	for i := range 3 {
		h.goes(t, 200, tid(i, 0))
		h.goes(t, 200, tid(i, 1))
		left(t, p, 4-i)
	}
	// Of each page no room is left: 512 - 4 - 2*4 - 2*230 - 30 - 4 = 6 bytes.
	h.goes(t, 7, tid(3, 0))
	h.goes(t, 6, tid(0, 2))
	h.goes(t, 6, tid(1, 2))
	h.goes(t, 0, tid(2, 2))
	h.goes(t, 0, tid(3, 1))
	h.freed(t, tid(1, 0))
	h.freed(t, tid(2, 1))
	h.goes(t, 200, tid(1, 0))
	h.goes(t, 200, tid(2, 1))
	h.goes(t, 200, tid(3, 2))
	h.goes(t, 200, tid(4, 0))
	left(t, p, 0)
	h.freed(t, tid(3, 0))
	h.freed(t, tid(0, 1))
	h.goes(t, 20, tid(0, 1))
	h.goes(t, 147, tid(3, 0)) // 512 - 4 - 3*4 - 230 - 36 - 50 - 30 - 4 = 146
	h.goes(t, 146, tid(0, 3))
	left(t, p, 0)
}

// P7.1: a page gets room when a version is freed, also where the others must be moved for it.
func TestRoomAgain(t *testing.T) {
	h := alone(t, 2)
	for slot := range 4 {
		h.goes(t, 80, tid(0, slot))
	}
	// 512 - 4 - 4*4 - 4*110 = 52: not enough for 30, 4 and 19 bytes.
	h.goes(t, 19, tid(1, 0))
	h.goes(t, 18, tid(0, 4))
	h.freed(t, tid(0, 1))
	h.goes(t, 81, tid(1, 1))
	h.freed(t, tid(0, 4))
	h.goes(t, 132, tid(0, 1)) // 18, 30, 80 of holes and 4 of a slot: all that is left
	h.goes(t, 0, tid(1, 2))
	h.freed(t, tid(0, 2))
	h.freed(t, tid(0, 0))
	h.goes(t, 110, tid(0, 0))
	h.goes(t, 51, tid(1, 3)) // 512 - 4 - 4*4 - 140 - 162 - 110 - 30 = 50
	h.goes(t, 50, tid(0, 2))
}

// P7.1, P7.2: pages stay when all that lay there is freed.
func TestPagesStay(t *testing.T) {
	p, l := pairs(t, 3, 1)
	h := l[0]
	for i := range 3 {
		h.goes(t, 200, tid(i, 0))
		h.goes(t, 200, tid(i, 1))
	}
	for i := range 3 {
		h.freed(t, tid(i, 0))
		h.freed(t, tid(i, 1))
		left(t, p, 0)
		if h.h.Pages() != 3 {
			t.Errorf("Pages = %d", h.h.Pages())
		}
	}
	h.goes(t, 200, tid(0, 0))
	h.goes(t, 200, tid(0, 1))
	h.goes(t, 9, tid(1, 0))
	h.drops(t)
	left(t, p, 3)
}

// P7.1: Data of none, of as many bytes as there may be, and of more.
func TestData(t *testing.T) {
	p, l := pairs(t, 1, 1)
	h := l[0]
	h.refuses(t, plain(201), api.ErrForm)
	h.refuses(t, plain(512), api.ErrForm)
	left(t, p, 1)
	h.goes(t, 200, tid(0, 0))
	h.refuses(t, plain(201), api.ErrForm)
	h.goes(t, 0, tid(0, 1))
	h.goes(t, 1, tid(0, 2))
	for slot := 3; slot < 8; slot++ { // 512 - 4 - 3*4 - 230 - 30 - 31 = 205 bytes are five times 34 and 35
		h.goes(t, 0, tid(0, slot))
	}
	h.refuses(t, plain(2), api.ErrFull)
	h.goes(t, 1, tid(0, 8))
	h.refuses(t, plain(0), api.ErrFull)
	h.refuses(t, plain(200), api.ErrFull)
	h.refuses(t, plain(201), api.ErrForm)
}

// P7.1: what isn't right, where there is room, a page left, and neither of them.
func TestInsertWrong(t *testing.T) {
	for _, pages := range []int{0, 1, 2} {
		p, l := pairs(t, pages, 1)
		h := l[0]
		for _, x := range wrong() {
			h.refuses(t, x, api.ErrForm)
		}
		left(t, p, pages)
		for range pages {
			h.puts(t, plain(200))
			for _, x := range wrong() {
				h.refuses(t, x, api.ErrForm)
			}
			h.puts(t, plain(200))
			h.puts(t, plain(6))
			for _, x := range wrong() {
				h.refuses(t, x, api.ErrForm)
			}
		}
		left(t, p, 0)
		for _, n := range []int{0, 1, 199, 200} {
			h.refuses(t, plain(n), api.ErrFull)
		}
	}
}

// P7.1: versions with all that they may have come out as they went in.
func TestGet(t *testing.T) {
	h := alone(t, 3)
	for _, x := range []api.Tuple{
		{Row: 1 << 40, Xmin: 1 << 40, Xmax: 1 << 40, Next: tid(65535, 65534), Data: bytes.Repeat([]byte{255}, 200)},
		{}, {Next: none()}, {Row: 7, Xmin: 8, Xmax: 9, Next: tid(3, 4), Data: []byte{0, 1, 0}},
		{Row: 1, Next: tid(0, 65534), Data: bytes.Repeat([]byte{1}, 200)}, {Xmin: 2, Next: tid(65535, 0), Data: []byte{}},
	} {
		h.puts(t, x)
		h.holds(t)
	}
	if x, ok := h.h.Get(tid(0, 3)); !ok || x.Row != 7 || x.Xmin != 8 || x.Xmax != 9 || x.Next != tid(3, 4) || string(x.Data) != "\x00\x01\x00" {
		t.Errorf("Get = %+v, %t", x, ok)
	}
}

// P7.1: a stamp changes the version's Xmax and Next, and nothing else.
func TestStamp(t *testing.T) {
	h := alone(t, 2)
	for range 4 {
		h.puts(t, plain(200))
	}
	for _, at := range []api.TID{tid(0, 0), tid(0, 1), tid(1, 0), tid(1, 1)} {
		for _, next := range []api.TID{{}, tid(1, 1), tid(65535, 65534), none()} {
			for _, xmax := range []uint64{0, 5, 1 << 40} {
				h.stamps(t, at, xmax, next)
				if x, _ := h.h.Get(at); x.Xmax != xmax || x.Next != next {
					t.Errorf("Stamp(%v, %d, %v): %+v", at, xmax, next, x)
				}
				h.holds(t)
			}
		}
	}
	h.goes(t, 6, tid(0, 2))
	h.goes(t, 6, tid(1, 2))
}

// stampsWrong checks that a stamp that isn't right is refused at a place, be something there or not.
func (p pair) stampsWrong(t *testing.T, at api.TID) {
	t.Helper()
	for _, x := range wrong() {
		if !rightStamp(x.Xmax, x.Next) {
			if e := p.h.Stamp(at, x.Xmax, x.Next); e != api.ErrForm {
				t.Errorf("Stamp(%v, %d, %v) = %d", at, x.Xmax, x.Next, e)
			}
		}
	}
}

// nothing checks that at a place nothing is: for Get, Stamp, Free and Chain.
func (p pair) nothing(t *testing.T, at api.TID) {
	t.Helper()
	if x, ok := p.h.Get(at); ok || !sameTuple(x, api.Tuple{}) {
		t.Errorf("Get(%v) = %+v, %t", at, x, ok)
	}
	for _, next := range []api.TID{none(), {}, tid(65535, 65534)} {
		if e := p.h.Stamp(at, 1<<40, next); e != api.ErrNone {
			t.Errorf("Stamp(%v, .., %v) = %d", at, next, e)
		}
	}
	if e := p.h.Free(at); e != api.ErrNone {
		t.Errorf("Free(%v) = %d", at, e)
	}
	if l := p.h.Chain(at); len(l) != 0 {
		t.Errorf("Chain(%v) = %v", at, l)
	}
}

// P7.1: places where nothing is; a stamp's form goes ahead.
func TestNowhere(t *testing.T) {
	h := alone(t, 3)
	for _, at := range append(nowhere(0), tid(0, 0)) {
		h.nothing(t, at)
		h.stampsWrong(t, at)
	}
	h.holds(t)
	for range 5 {
		h.puts(t, plain(190))
	}
	h.freed(t, tid(0, 0))
	h.freed(t, tid(2, 0))
	for _, at := range append(nowhere(3), tid(0, 0), tid(0, 2), tid(1, 2), tid(2, 0), tid(2, 1)) {
		h.nothing(t, at)
		h.stampsWrong(t, at)
	}
	h.stampsWrong(t, tid(0, 1))
	h.stampsWrong(t, tid(1, 0))
	h.holds(t)
	h.drops(t)
	for _, at := range append(nowhere(0), tid(0, 0), tid(0, 1), tid(1, 0)) {
		h.nothing(t, at)
		h.stampsWrong(t, at)
	}
}

// P7.2: where versions lie on a page; that of one without any, and of none.
func TestPage(t *testing.T) {
	h := alone(t, 3)
	for i := range 9 {
		h.goes(t, 100, tid(i/3, i%3))
	}
	h.freed(t, tid(0, 1))
	h.freed(t, tid(1, 0))
	h.freed(t, tid(1, 1))
	h.freed(t, tid(1, 2))
	h.freed(t, tid(2, 2))
	for n, want := range [][]api.TID{{tid(0, 0), tid(0, 2)}, {}, {tid(2, 0), tid(2, 1)}, {}} {
		if l := h.h.Page(n); !slices.Equal(l, want) {
			t.Errorf("Page(%d) = %v; want %v", n, l, want)
		}
	}
	for _, n := range []int{-1, -2, math.MinInt, 3, 4, 256, math.MaxInt} {
		if l := h.h.Page(n); len(l) != 0 {
			t.Errorf("Page(%d) = %v", n, l)
		}
	}
}

// chain checks a chain.
func chain(t *testing.T, h pair, at api.TID, want ...api.TID) {
	t.Helper()
	if l := h.h.Chain(at); !slices.Equal(l, want) {
		t.Errorf("Chain(%v) = %v; want %v", at, l, want)
	}
}

// P7.2: chains that end, over several pages, and such as come round.
func TestChain(t *testing.T) {
	h := alone(t, 3)
	for range 6 {
		h.puts(t, plain(200))
	}
	a, b, c, d, e, f := tid(0, 0), tid(0, 1), tid(1, 0), tid(1, 1), tid(2, 0), tid(2, 1)
	chain(t, h, a, a)
	h.stamps(t, a, 5, d)
	h.stamps(t, d, 6, b)
	h.stamps(t, b, 7, f)
	chain(t, h, a, a, d, b, f)
	chain(t, h, d, d, b, f)
	chain(t, h, f, f)
	for _, at := range []api.TID{tid(3, 0), tid(65535, 65534), tid(2, 2), tid(0, 65534)} {
		h.stamps(t, f, 8, at)
		chain(t, h, a, a, d, b, f)
	}
	h.stamps(t, f, 8, a) // to the first one
	chain(t, h, a, a, d, b, f)
	chain(t, h, b, b, f, a, d)
	h.stamps(t, f, 8, d) // to a later one
	chain(t, h, a, a, d, b, f)
	chain(t, h, f, f, d, b)
	h.stamps(t, f, 8, f) // to itself
	chain(t, h, a, a, d, b, f)
	chain(t, h, f, f)
	h.stamps(t, e, 9, c)
	h.stamps(t, c, 9, a)
	h.stamps(t, f, 9, none())
	chain(t, h, e, e, c, a, d, b, f)
	h.freed(t, d)
	chain(t, h, e, e, c, a)
	chain(t, h, d)
	h.stamps(t, a, 0, none()) // an Xmax of 0 ends no chain, and one that isn't goes on none
	h.stamps(t, c, 0, a)
	chain(t, h, c, c, a)
	h.goes(t, 200, d)
	chain(t, h, d, d)
	h.holds(t)
}

// P7.2: a chain of as many versions as a page and a pool take.
func TestLongChain(t *testing.T) {
	h := alone(t, api.MaxPages)
	var l []api.TID
	for {
		at, e := h.h.Insert(api.Tuple{Next: none()})
		if e != api.OK {
			break
		}
		l = append(l, at)
	}
	if len(l) != 14*api.MaxPages {
		t.Fatalf("%d versions", len(l))
	}
	for i := range l { // each leaps over some thousand others
		h.h.Stamp(l[i*1003%len(l)], 1, l[(i+1)*1003%len(l)])
	}
	got := h.h.Chain(l[5*1003%len(l)])
	if len(got) != len(l) {
		t.Fatalf("%d of the chain; want %d", len(got), len(l))
	}
	for i, at := range got {
		if at != l[(i+5)*1003%len(l)] {
			t.Fatalf("place %d: %v", i, at)
		}
	}
}

// P7.2: a heap that was dropped has no pages, and goes on.
func TestDrop(t *testing.T) {
	p, l := pairs(t, 3, 1)
	h := l[0]
	if n := h.h.Drop(); n != 0 {
		t.Errorf("Drop = %d", n)
	}
	for i := range 3 {
		for k := range 2*i + 1 {
			h.goes(t, 200, tid(k/2, k%2))
		}
		left(t, p, 2-i)
		if n := h.h.Drop(); n != i+1 {
			t.Errorf("Drop = %d; want %d", n, i+1)
		}
		h.m.drop()
		left(t, p, 3)
		h.holds(t)
		h.nothing(t, tid(0, 0))
		if n := h.h.Drop(); n != 0 {
			t.Errorf("Drop = %d", n)
		}
		left(t, p, 3)
	}
	h.goes(t, 3, tid(0, 0))
	h.goes(t, 200, tid(0, 1))
	left(t, p, 2)
}

// P7.1, P7.2: heaps of one pool take its pages in turn, and have them back from each other.
func TestHeapsOfOnePool(t *testing.T) {
	p, l := pairs(t, 5, 3)
	a, b, c := l[0], l[1], l[2]
	a.goes(t, 200, tid(0, 0))
	b.goes(t, 100, tid(0, 0))
	a.goes(t, 200, tid(0, 1))
	a.goes(t, 150, tid(1, 0))
	c.goes(t, 200, tid(0, 0))
	left(t, p, 1)
	b.goes(t, 200, tid(0, 1))
	b.goes(t, 200, tid(1, 0))
	left(t, p, 0)
	c.goes(t, 200, tid(0, 1))
	c.refuses(t, plain(200), api.ErrFull)
	c.goes(t, 6, tid(0, 2))
	a.goes(t, 200, tid(1, 1))
	a.refuses(t, plain(100), api.ErrFull)
	for _, x := range l {
		x.holds(t)
	}
	if n := b.h.Drop(); n != 2 {
		t.Errorf("Drop = %d", n)
	}
	b.m.drop()
	left(t, p, 2)
	c.goes(t, 200, tid(1, 0))
	a.goes(t, 100, tid(2, 0))
	left(t, p, 0)
	b.refuses(t, plain(0), api.ErrFull)
	if n := a.h.Drop(); n != 3 {
		t.Errorf("Drop = %d", n)
	}
	a.m.drop()
	b.goes(t, 0, tid(0, 0))
	left(t, p, 2)
	for _, x := range l {
		x.holds(t)
	}
}

// P7.1: heaps of other pools don't take a pool's pages.
func TestTwoPools(t *testing.T) {
	p, x := pairs(t, 1, 1)
	q, y := pairs(t, 2, 1)
	x[0].goes(t, 200, tid(0, 0))
	left(t, p, 0)
	left(t, q, 2)
	y[0].goes(t, 200, tid(0, 0))
	left(t, q, 1)
	x[0].drops(t)
	left(t, p, 1)
	left(t, q, 1)
	y[0].holds(t)
}

// P7.1: as many pages as there may be, and one more.
func TestMaxPages(t *testing.T) {
	p, l := pairs(t, api.MaxPages, 2)
	a, b := l[0], l[1]
	for i := range api.MaxPages {
		for slot := range 2 {
			if at, e := a.h.Insert(plain(200)); at != tid(i, slot) || e != api.OK {
				t.Fatalf("Insert = %v, %d; want %d, %d", at, e, i, slot)
			}
			a.m.insert(plain(200))
		}
		left(t, p, api.MaxPages-1-i)
	}
	a.refuses(t, plain(200), api.ErrFull)
	b.refuses(t, plain(0), api.ErrFull)
	a.frees(t, tid(255, 1))
	a.goes(t, 100, tid(255, 1))
	a.goes(t, 106, tid(255, 2))
	a.drops(t)
	left(t, p, api.MaxPages)
	b.goes(t, 0, tid(0, 0))
}

// P7.1, P7.2: a nil pool, and a heap that has none.
func TestNilPool(t *testing.T) {
	var p *heap.Pool
	left(t, p, 0)
	h := pair{heap.New(p), &model{}}
	h.holds(t)
	for _, n := range []int{0, 1, 200} {
		h.refuses(t, plain(n), api.ErrFull)
	}
	for _, x := range wrong() {
		h.refuses(t, x, api.ErrForm)
	}
	for _, at := range append(nowhere(0), tid(0, 0)) {
		h.nothing(t, at)
		h.stampsWrong(t, at)
	}
	if n := h.h.Drop(); n != 0 {
		t.Errorf("Drop = %d", n)
	}
	left(t, p, 0)
}

// P7.2: a nil heap, whatever else applies.
func TestNilHeap(t *testing.T) {
	var h *heap.Heap
	for _, x := range append(wrong(), plain(0), plain(200)) {
		if at, e := h.Insert(x); at != (api.TID{}) || e != api.ErrNone {
			t.Errorf("Insert(%+v) = %v, %d", x, at, e)
		}
		for _, at := range append(nowhere(0), tid(0, 0)) {
			if e := h.Stamp(at, x.Xmax, x.Next); e != api.ErrNone {
				t.Errorf("Stamp(%v, %d, %v) = %d", at, x.Xmax, x.Next, e)
			}
		}
	}
	for _, at := range append(nowhere(0), tid(0, 0)) {
		pair{h, nil}.nothing(t, at)
		if l := h.Page(at.Page); len(l) != 0 {
			t.Errorf("Page(%d) = %v", at.Page, l)
		}
	}
	if h.Pages() != 0 || h.Used() != 0 || h.Drop() != 0 {
		t.Errorf("Pages %d, Used %d, Drop %d", h.Pages(), h.Used(), h.Drop())
	}
}

// P1, P2 and what DOC.md says of memory: what is handed in stays untouched and isn't kept.
func TestHandedIn(t *testing.T) {
	h := alone(t, 2)
	room := bytes.Repeat([]byte{9}, 40)
	x := api.Tuple{Row: 1, Next: none(), Data: room[4:10]}
	for range 12 {
		h.puts(t, x)
		if !bytes.Equal(room, bytes.Repeat([]byte{9}, 40)) {
			t.Fatal("Insert changed what it was handed")
		}
	}
	for i := range room {
		room[i] = 77
	}
	h.holds(t)
}

// scribbleTIDs writes over a list and its spare room.
func scribbleTIDs(l []api.TID) {
	for i := range l[:cap(l)] {
		l[:cap(l)][i] = tid(-9, -9)
	}
}

// DOC.md's memory: what is told is its own, spare room too.
func TestTold(t *testing.T) {
	h := alone(t, 2)
	for i := range 6 {
		h.puts(t, api.Tuple{Next: tid((i+1)/3, (i+1)%3), Data: bytes.Repeat([]byte{5}, 100)})
	}
	h.holds(t)
	for range 2 {
		for i := range 6 {
			at := tid(i/3, i%3)
			x, _ := h.h.Get(at)
			y, _ := h.h.Get(at)
			for k := range x.Data[:cap(x.Data)] {
				x.Data[:cap(x.Data)][k] = 66
			}
			if !bytes.Equal(y.Data, bytes.Repeat([]byte{5}, 100)) {
				t.Fatalf("Get(%v): two answers share", at)
			}
			k, l := h.h.Chain(at), h.h.Chain(at)
			scribbleTIDs(k)
			if !slices.Equal(l, h.m.chain(at)) {
				t.Fatalf("Chain(%v): two answers share", at)
			}
			k, l = h.h.Page(at.Page), h.h.Page(at.Page)
			scribbleTIDs(k)
			if !slices.Equal(l, h.m.page(at.Page)) {
				t.Fatalf("Page(%d): two answers share", at.Page)
			}
			h.holds(t)
		}
	}
}

// step tells a heap one thing, and holds what it answers against the chapter's.
func (p pair) step(t *testing.T, d *dice, most int) {
	t.Helper()
	switch d.roll(16) {
	case 0, 1, 2, 3, 4, 5, 6:
		p.puts(t, d.tuple(p.m, most))
	case 7, 8, 9, 10:
		p.stamps(t, d.place(p.m), d.xid(), d.next(p.m))
	case 11, 12, 13, 14:
		p.frees(t, d.place(p.m))
	default:
		if d.roll(25) == 0 {
			p.drops(t)
		}
	}
}

// P7.1, P7.2, P1, P2: whatever heaps of some pools are told, in turn, each tells what the chapter says.
func TestWalk(t *testing.T) {
	d := dice(7)
	for range 30 {
		var all []pair
		var pools []*heap.Pool
		most := d.of(0, 40, 120, 200, 202)
		for range 3 {
			p, l := pairs(t, d.roll(7), 1+d.roll(3))
			all = append(all, l...)
			pools = append(pools, p)
			for range l[1:] {
				pools = append(pools, p)
			}
		}
		for i := range 400 {
			k := d.roll(len(all))
			all[k].step(t, &d, most)
			left(t, pools[k], *all[k].m.left)
			if i%4 == 0 {
				all[k].holds(t)
			}
		}
		for k := range all {
			all[k].holds(t)
			left(t, pools[k], *all[k].m.left)
		}
	}
}

// P2: heaps that were told alike tell alike, whatever others are told in between.
func TestAlike(t *testing.T) {
	var a, b [40]api.TID
	tell := func(h *heap.Heap, i int) api.TID {
		at, _ := h.Insert(plain(i * 37 % 201))
		h.Stamp(tid(at.Page, 0), uint64(i), at)
		if i%3 == 0 {
			h.Free(tid(at.Page, 1))
		}
		return at
	}
	one, two, other := heap.New(pool(t, 9)), heap.New(pool(t, 9)), heap.New(pool(t, 4))
	for i := range a {
		a[i] = tell(one, i)
		tell(other, 40-i)
	}
	for i := range b {
		b[i] = tell(two, i)
	}
	if a != b {
		t.Errorf("%v\n%v", a, b)
	}
	for n := range 9 {
		if !slices.Equal(one.Page(n), two.Page(n)) || !slices.Equal(one.Chain(tid(n, 0)), two.Chain(tid(n, 0))) {
			t.Errorf("page %d: %v, %v", n, one.Page(n), two.Page(n))
		}
	}
}
