package page_test

import (
	"bytes"
	"math"
	"testing"

	"lapidary/api"
	"lapidary/page"
)

// plain is a version with n bytes of Data.
func plain(n int) api.Tuple {
	return api.Tuple{Row: uint64(n), Xmin: 3, Next: none(), Data: bytes.Repeat([]byte{byte(n)}, n)}
}

// filled is a page into which versions of so many bytes of Data went, and out of which
// these slots were freed then.
func filled(t *testing.T, sizes []int, freed ...int) *page.Page {
	t.Helper()
	p := page.New()
	for i, n := range sizes {
		if slot, e := p.Insert(plain(n)); slot != i || e != api.OK {
			t.Fatalf("Insert of %d bytes = %d, %d; want %d", n, slot, e, i)
		}
	}
	for _, slot := range freed {
		if e := p.Free(slot); e != api.OK {
			t.Fatalf("Free(%d) = %d", slot, e)
		}
	}
	return p
}

// sizes are those of a page's versions.
func sizes(l ...int) []int { return l }

// begin is where a page's data begin.
func begin(p *page.Page) int {
	b := p.Bytes()
	return int(b[2]) + 256*int(b[3])
}

// lies is where the bytes of a slot's version begin.
func lies(p *page.Page, slot int) int {
	b := p.Bytes()[4+4*slot:]
	return int(b[0]) + 256*int(b[1])
}

// tells checks how many slots, how many that aren't free, and the room.
func tells(t *testing.T, p *page.Page, slots, used, room int) {
	t.Helper()
	if p.Slots() != slots || p.Used() != used || p.Room() != room {
		t.Errorf("Slots %d, Used %d, Room %d; want %d, %d, %d", p.Slots(), p.Used(), p.Room(), slots, used, room)
	}
}

// has checks that a slot has plain(n), and where its bytes begin.
func has(t *testing.T, p *page.Page, slot, n, at int) {
	t.Helper()
	if x, ok := p.Get(slot); !ok || !sameTuple(x, plain(n)) || lies(p, slot) != at {
		t.Errorf("Get(%d) = %+v, %t, at %d; want %d bytes at %d", slot, x, ok, lies(p, slot), n, at)
	}
}

// puts checks in which slot a version of n bytes of Data goes.
func puts(t *testing.T, p *page.Page, n, want int) {
	t.Helper()
	if slot, e := p.Insert(plain(n)); slot != want || e != api.OK {
		t.Errorf("Insert of %d bytes = %d, %d; want %d", n, slot, e, want)
	}
}

// refuses checks Insert's error, and that nothing has changed.
func refuses(t *testing.T, p *page.Page, x api.Tuple, want api.Errno) {
	t.Helper()
	was := p.Bytes()
	if slot, e := p.Insert(x); slot != 0 || e != want {
		t.Errorf("Insert(%+v) = %d, %d; want 0, %d", x, slot, e, want)
	}
	if !bytes.Equal(p.Bytes(), was) {
		t.Errorf("Insert(%+v) changed the page", x)
	}
}

// nothing checks that in a slot nothing is: for Get, Stamp and Free.
func nothing(t *testing.T, p *page.Page, slot int) {
	t.Helper()
	was := p.Bytes()
	if x, ok := p.Get(slot); ok || !sameTuple(x, api.Tuple{}) {
		t.Errorf("Get(%d) = %+v, %t", slot, x, ok)
	}
	for _, next := range []api.TID{none(), {}, {Page: 65535, Slot: 65534}} {
		if e := p.Stamp(slot, api.MaxXid, next); e != api.ErrNone {
			t.Errorf("Stamp(%d, .., %v) = %d", slot, next, e)
		}
	}
	if e := p.Free(slot); e != api.ErrNone {
		t.Errorf("Free(%d) = %d", slot, e)
	}
	if !bytes.Equal(p.Bytes(), was) {
		t.Errorf("slot %d: the page changed", slot)
	}
}

// P5.1, P5.2: a new page.
func TestNew(t *testing.T) {
	p := page.New()
	tells(t, p, 0, 0, 474)
	want := make([]byte, 512)
	want[3] = 2
	if !bytes.Equal(p.Bytes(), want) {
		t.Errorf("Bytes: % x", p.Bytes())
	}
	for _, slot := range []int{-1, 0, 1, math.MinInt, math.MaxInt} {
		nothing(t, p, slot)
	}
}

// P5.1: the chapter's example.
func TestExample(t *testing.T) {
	p := page.New()
	if slot, e := p.Insert(api.Tuple{Next: none(), Data: []byte("a")}); slot != 0 || e != api.OK {
		t.Errorf("Insert = %d, %d", slot, e)
	}
	tells(t, p, 1, 1, 439)
	if e := p.Free(0); e != api.OK {
		t.Errorf("Free = %d", e)
	}
	tells(t, p, 0, 0, 474)
}

// P5.1, P5.2: a version's bytes, each number's lowest first, and what is read out of them.
func TestBytesOfAVersion(t *testing.T) {
	x := api.Tuple{Row: 0x0102030405, Xmin: api.MaxXid, Xmax: 0x0a0b, Next: api.TID{Page: 0x1102, Slot: 0x1304}, Data: []byte("abc")}
	y := api.Tuple{Row: 1, Xmin: 2, Next: none()}
	p := page.New()
	p.Insert(x)
	p.Insert(y)
	want := make([]byte, 512)
	copy(want, "\x02\x00\xc1\x01\xdf\x01\x21\x00\xc1\x01\x1e\x00")
	copy(want[449:], "\x01\x00\x00\x00\x00\x00\x00\x00\x02") // the rest is 0: no Xmax, no Next
	copy(want[479:], "\x05\x04\x03\x02\x01\x00\x00\x00\x00\x00\x00\x00\x00\x01\x00\x00\x0b\x0a\x00\x00\x00\x00\x00\x00\x03\x11\x00\x00\x05\x13abc")
	if !bytes.Equal(p.Bytes(), want) {
		t.Errorf("Bytes:\n% x\nwant\n% x", p.Bytes(), want)
	}
	q, e := page.Load(want)
	if e != api.OK {
		t.Fatalf("Load = %d", e)
	}
	for _, p := range []*page.Page{p, q} {
		for slot, want := range []api.Tuple{x, y} {
			if got, ok := p.Get(slot); !ok || !sameTuple(got, want) {
				t.Errorf("Get(%d) = %+v, %t", slot, got, ok)
			}
		}
	}
}

// P5.1: slots, those in use, and the room; what has room goes in, a byte more doesn't.
func TestRoom(t *testing.T) {
	for _, c := range []struct {
		sizes, freed      []int
		slots, used, room int
	}{
		{nil, nil, 0, 0, 474},
		{sizes(0), nil, 1, 1, 440},
		{sizes(1), nil, 1, 1, 439},
		{sizes(200), nil, 1, 1, 240},
		{sizes(200, 200), nil, 2, 2, 6},
		{sizes(200, 200, 6), nil, 3, 3, -1}, // full to the last byte
		{sizes(200, 200, 5), nil, 3, 3, -1},
		{sizes(200, 170, 0), nil, 3, 3, 2},
		{sizes(200, 171, 0), nil, 3, 3, 1},
		{sizes(200, 172, 0), nil, 3, 3, 0},
		{sizes(200, 173, 0), nil, 3, 3, -1},
		{sizes(200, 174, 0), nil, 3, 3, -1},
		{sizes(200, 200, 6), sizes(2), 2, 2, 6},
		{sizes(200, 200, 6), sizes(1), 3, 2, 200}, // the slot is there
		{sizes(200, 200, 6), sizes(1, 2), 1, 1, 240},
		{sizes(200, 199, 6), sizes(1), 3, 2, 200},
		{sizes(199, 200, 6), sizes(1), 3, 2, 201},
		{sizes(200, 200, 0), sizes(2), 2, 2, 6},
		{sizes(100, 50, 120), nil, 3, 3, 102},
		{sizes(100, 50, 120), sizes(0), 3, 2, 236},
		{sizes(100, 50, 120), sizes(1), 3, 2, 186},
		{sizes(100, 50, 120), sizes(2), 2, 2, 256},
		{sizes(100, 50, 120), sizes(0, 2), 2, 1, 390},
		{sizes(100, 50, 120), sizes(0, 1), 3, 1, 316},
		{sizes(100, 50, 120), sizes(1, 2), 1, 1, 340},
		{sizes(100, 50, 120), sizes(0, 1, 2), 0, 0, 474},
		{sizes(100, 50, 120), sizes(2, 1, 0), 0, 0, 474},
		{make([]int, 13), nil, 13, 13, 32},
		{make([]int, 14), nil, 14, 14, -1},
		{make([]int, 14), sizes(3), 14, 13, 32},
		{make([]int, 14), sizes(13), 13, 13, 32},
		{make([]int, 14), sizes(3, 5), 14, 12, 62},
	} {
		tells(t, filled(t, c.sizes, c.freed...), c.slots, c.used, c.room)
		for n := range 203 {
			p := filled(t, c.sizes, c.freed...)
			switch {
			case n > 200:
				refuses(t, p, plain(n), api.ErrForm)
			case n > c.room:
				refuses(t, p, plain(n), api.ErrFull)
			default:
				slot, e := p.Insert(plain(n))
				if x, _ := p.Get(slot); e != api.OK || p.Used() != c.used+1 || !sameTuple(x, plain(n)) {
					t.Errorf("%v less %v: Insert of %d bytes = %d, %d", c.sizes, c.freed, n, slot, e)
				}
			}
		}
	}
}

// P5.1: Room where many slots are free, down to where it would be below 0.
func TestRoomOfManySlots(t *testing.T) {
	for _, c := range []struct{ slots, room int }{{2, 440}, {62, 200}, {111, 4}, {112, 0}, {113, -1}, {119, -1}} {
		m := &model{begin: 482, slots: make([]*held, c.slots)}
		m.slots[c.slots-1] = &held{plain(0), 482}
		p, e := page.Load(m.bytes())
		if e != api.OK {
			t.Fatalf("Load = %d", e)
		}
		tells(t, p, c.slots, 1, c.room)
		if c.room < 0 {
			refuses(t, p, plain(0), api.ErrFull)
			continue
		}
		if c.room < 200 {
			refuses(t, p, plain(c.room+1), api.ErrFull)
		}
		puts(t, p, min(c.room, 200), 0)
	}
}

// P5.1: the least slot that is free is taken, else a new one.
func TestInsertSlots(t *testing.T) {
	p := filled(t, sizes(1, 2, 3, 4, 5), 3, 0, 1)
	for i, want := range []int{0, 1, 3, 5, 6} {
		puts(t, p, 10+i, want)
	}
	for slot, n := range []int{10, 11, 3, 12, 5, 13, 14} {
		if x, ok := p.Get(slot); !ok || !sameTuple(x, plain(n)) {
			t.Errorf("Get(%d) = %+v, %t", slot, x, ok)
		}
	}
	tells(t, p, 7, 7, 512-4-7*34-10-11-3-12-5-13-14-34)
}

// P5.1: what isn't right doesn't go in, wherever it is wrong, whether or not there is room.
func TestInsertForm(t *testing.T) {
	change := func(f func(x *api.Tuple)) api.Tuple {
		x := plain(5)
		f(&x)
		return x
	}
	full, some, empty := filled(t, sizes(200, 200, 6)), filled(t, sizes(1, 2), 0), page.New()
	wrong := []api.Tuple{{}, plain(201), plain(475), plain(5000)}
	wrong[0].Next = api.TID{Page: 0, Slot: -1}
	for _, n := range []uint64{api.MaxXid + 1, 2 * api.MaxXid, 1 << 63, math.MaxUint64} {
		wrong = append(wrong, change(func(x *api.Tuple) { x.Row = n }), change(func(x *api.Tuple) { x.Xmin = n }), change(func(x *api.Tuple) { x.Xmax = n }))
	}
	for _, next := range wrongNexts() {
		wrong = append(wrong, change(func(x *api.Tuple) { x.Next = next }))
	}
	for _, x := range wrong {
		for _, p := range []*page.Page{full, some, empty} {
			refuses(t, p, x, api.ErrForm)
		}
	}
	tells(t, empty, 0, 0, 474)
}

// wrongNexts are such as no version has.
func wrongNexts() []api.TID {
	return []api.TID{
		{Page: -1, Slot: 0}, {Page: 0, Slot: -1}, {Page: -1, Slot: 65534}, {Page: 65535, Slot: -1}, {Page: -2, Slot: -2}, {Page: -2, Slot: -1}, {Page: -1, Slot: -2},
		{Page: -2, Slot: 5}, {Page: 5, Slot: -2}, {Page: 65536, Slot: 0}, {Page: 0, Slot: 65535}, {Page: 65536, Slot: 65535}, {Page: 65536, Slot: -1}, {Page: -1, Slot: 65535},
		{Page: 1<<32 - 1, Slot: 1<<16 - 1}, {Page: 1<<32 + 4, Slot: 3}, {Page: 4, Slot: 1<<16 + 3}, {Page: math.MaxInt, Slot: 1}, {Page: 1, Slot: math.MaxInt}, {Page: math.MinInt, Slot: 1}, {Page: 1, Slot: math.MinInt},
	}
}

// rightNexts are none, some, and those at the bounds.
func rightNexts() []api.TID {
	return []api.TID{{Page: -1, Slot: -1}, {}, {Page: 0, Slot: 1}, {Page: 1, Slot: 0}, {Page: 255, Slot: 256}, {Page: 65535, Slot: 0}, {Page: 0, Slot: 65534}, {Page: 65535, Slot: 65534}, {Page: 65534, Slot: 65533}}
}

// P5.1: what is at a bound is right.
func TestInsertBounds(t *testing.T) {
	var l []api.Tuple
	for _, n := range []uint64{0, 1, 255, 256, 1 << 32, api.MaxXid - 1, api.MaxXid} {
		l = append(l, api.Tuple{Row: n, Next: none()}, api.Tuple{Xmin: n, Next: none()}, api.Tuple{Xmax: n, Next: none()}, api.Tuple{Row: n, Xmin: n, Xmax: n, Next: none()})
	}
	for _, next := range rightNexts() {
		l = append(l, api.Tuple{Row: 1, Xmin: 2, Xmax: 3, Next: next, Data: []byte{4, 5}})
	}
	l = append(l, plain(0), plain(199), plain(200), api.Tuple{Next: none(), Data: []byte{}})
	for _, x := range l {
		p, m := page.New(), newModel()
		m.insert(x)
		if slot, e := p.Insert(x); slot != 0 || e != api.OK {
			t.Errorf("Insert(%+v) = %d, %d", x, slot, e)
		}
		sameAs(t, p, m)
	}
}

// P5.1: a slot below 0, one that there isn't, one that is free.
func TestNothingThere(t *testing.T) {
	p := filled(t, sizes(1, 2, 3, 4, 5), 1, 2)
	for _, slot := range []int{-1, -5, math.MinInt, 1, 2, 5, 6, 127, 128, 1 << 16, 1<<16 + 3, 1 << 32, math.MaxInt} {
		nothing(t, p, slot)
	}
}

// P5.1: Stamp changes the Xmax and the Next of one version, and nothing else.
func TestStamp(t *testing.T) {
	m := newModel()
	p := page.New()
	for _, n := range []int{3, 0, 7} {
		p.Insert(plain(n))
		m.insert(plain(n))
	}
	for slot := range 3 {
		for _, next := range rightNexts() {
			for _, xmax := range []uint64{1, 9, 1 << 33, api.MaxXid - 1, api.MaxXid, 0} {
				m.stamp(slot, xmax, next)
				if e := p.Stamp(slot, xmax, next); e != api.OK {
					t.Errorf("Stamp(%d, %d, %v) = %d", slot, xmax, next, e)
				}
				x, _ := p.Get(slot)
				if x.Xmax != xmax || x.Next != next {
					t.Errorf("Stamp(%d, %d, %v): %+v", slot, xmax, next, x)
				}
				sameAs(t, p, m)
			}
		}
	}
}

// P5.1: Stamp of what wouldn't be right: of the two errors the lesser one is told, where
// nothing is, too.
func TestStampForm(t *testing.T) {
	p := filled(t, sizes(3, 4, 5), 1)
	was := p.Bytes()
	for _, slot := range []int{0, 2, 1, 3, -1, math.MaxInt, math.MinInt} {
		for _, next := range wrongNexts() {
			if e := p.Stamp(slot, 5, next); e != api.ErrForm {
				t.Errorf("Stamp(%d, 5, %v) = %d", slot, next, e)
			}
		}
		for _, xmax := range []uint64{api.MaxXid + 1, 1 << 63, math.MaxUint64} {
			for _, next := range rightNexts() {
				if e := p.Stamp(slot, xmax, next); e != api.ErrForm {
					t.Errorf("Stamp(%d, %d, %v) = %d", slot, xmax, next, e)
				}
			}
		}
	}
	if !bytes.Equal(p.Bytes(), was) {
		t.Errorf("changed: % x", p.Bytes())
	}
}

// P5.1: free slots at the end are no more, the others stay; a slot is freed but once.
func TestFreeAtTheEnd(t *testing.T) {
	p := filled(t, sizes(1, 2, 3, 4))
	for _, c := range []struct{ free, slots, used int }{{1, 4, 3}, {2, 4, 2}, {3, 1, 1}, {0, 0, 0}} {
		if e := p.Free(c.free); e != api.OK || p.Slots() != c.slots || p.Used() != c.used {
			t.Errorf("Free(%d) = %d: Slots %d, Used %d; want %d, %d", c.free, e, p.Slots(), p.Used(), c.slots, c.used)
		}
		nothing(t, p, c.free)
	}
	want := make([]byte, 512)
	want[2], want[3] = 512-31-32-33-34-256, 1 // where the data begin stays
	if !bytes.Equal(p.Bytes(), want) {
		t.Errorf("Bytes: % x", p.Bytes())
	}
	puts(t, p, 9, 0)
	has(t, p, 0, 9, 512-31-32-33-34-39)
}

// P5.1: what is freed leaves a hole of noughts, behind, between and ahead of others: where
// the data begin stays, and what goes in next lies ahead of the hole.
func TestHole(t *testing.T) {
	for free, where := range []int{472, 422, 362} {
		p := filled(t, sizes(10, 20, 30), free)
		if begin(p) != 362 {
			t.Errorf("data begin at %d", begin(p))
		}
		size := 40 + 10*free
		if !bytes.Equal(p.Bytes()[where:where+size], make([]byte, size)) {
			t.Errorf("the hole: % x", p.Bytes()[where:where+size])
		}
		if !bytes.Equal(p.Bytes()[4+4*free:8+4*free], make([]byte, 4)) {
			t.Errorf("the slot: % x", p.Bytes()[4+4*free:8+4*free])
		}
		puts(t, p, 5, free)
		has(t, p, free, 5, 327)
		for slot, at := range []int{472, 422, 362} {
			if slot != free {
				has(t, p, slot, 10*slot+10, at)
			}
		}
		if begin(p) != 327 {
			t.Errorf("data begin at %d", begin(p))
		}
	}
}

// P5.1: versions are moved just where there is no room in front; a new slot needs its own bytes.
func TestMovedForWant(t *testing.T) {
	for n := range 201 {
		p := filled(t, sizes(100, 170), 1) // a hole at 182, and one slot
		puts(t, p, n, 1)
		at := 182 - 30 - n
		if n > 140 {
			at = 382 - 30 - n
		}
		has(t, p, 0, 100, 382)
		has(t, p, 1, n, at)
		p = filled(t, sizes(150, 100), 0) // a hole at 332, and two slots
		puts(t, p, n, 0)
		at, other := 202-30-n, 202
		if n > 160 {
			at, other = 382-30-n, 382
		}
		has(t, p, 0, n, at)
		has(t, p, 1, 100, other)
		if begin(p) != at {
			t.Errorf("%d bytes: data begin at %d", n, begin(p))
		}
	}
}

// P5.1: they are moved in order of their slots, whenever they were put there.
func TestMovedInOrder(t *testing.T) {
	p := filled(t, sizes(100, 50, 120), 0)
	puts(t, p, 60, 0) // ahead of the others
	has(t, p, 0, 60, 62)
	has(t, p, 1, 50, 302)
	has(t, p, 2, 120, 152)
	p.Stamp(2, 7, api.TID{Page: 8, Slot: 9})
	puts(t, p, 70, 3)
	has(t, p, 0, 60, 422)
	has(t, p, 1, 50, 342)
	has(t, p, 3, 70, 92)
	if x, _ := p.Get(2); x.Xmax != 7 || x.Next != (api.TID{Page: 8, Slot: 9}) || lies(p, 2) != 192 {
		t.Errorf("Get(2) = %+v at %d", x, lies(p, 2))
	}
	b := p.Bytes()
	if begin(p) != 92 || !bytes.Equal(b[20:92], make([]byte, 72)) {
		t.Errorf("Bytes: % x", b)
	}
	p.Free(1)
	puts(t, p, 90, 1) // what was moved is moved again
	for slot, want := range []int{422, 52, 272, 172} {
		if lies(p, slot) != want {
			t.Errorf("slot %d at %d; want %d", slot, lies(p, slot), want)
		}
	}
}

// P5.1: a nil page.
func TestNil(t *testing.T) {
	var p *page.Page
	for _, x := range []api.Tuple{plain(1), {}, plain(500), {Row: math.MaxUint64}} {
		if slot, e := p.Insert(x); slot != 0 || e != api.ErrNone {
			t.Errorf("Insert = %d, %d", slot, e)
		}
	}
	for _, slot := range []int{0, 1, -1, math.MaxInt, math.MinInt} {
		if x, ok := p.Get(slot); ok || !sameTuple(x, api.Tuple{}) {
			t.Errorf("Get(%d) = %+v, %t", slot, x, ok)
		}
		for _, next := range append(wrongNexts(), rightNexts()...) {
			if e, e2 := p.Stamp(slot, 1, next), p.Stamp(slot, math.MaxUint64, next); e != api.ErrNone || e2 != api.ErrNone {
				t.Errorf("Stamp(%d, .., %v) = %d, %d", slot, next, e, e2)
			}
		}
		if e := p.Free(slot); e != api.ErrNone {
			t.Errorf("Free(%d) = %d", slot, e)
		}
	}
	tells(t, p, 0, 0, -1)
	if b := p.Bytes(); len(b) != 0 {
		t.Errorf("Bytes: % x", b)
	}
}

// P5.1, P5.2, P1: whatever a page is told, it is as the chapter's page, and as the one of its bytes.
func TestWalk(t *testing.T) {
	for seed := range 120 {
		d := dice(seed)
		p, m := page.New(), newModel()
		most := []int{0, 3, 40, 120, 202}[seed%5]
		for range 150 {
			step(t, &d, p, m, most)
			sameAs(t, p, m)
			q, e := page.Load(p.Bytes())
			if e != api.OK {
				t.Fatalf("Load = %d", e)
			}
			sameAs(t, q, m)
			if d.roll(4) == 0 {
				p = q
			}
		}
	}
}

// P2: of pages that are told the same all tell the same, whatever another one is told between.
func TestAlike(t *testing.T) {
	one, other, between := dice(77), dice(77), dice(78)
	p, q, r := page.New(), page.New(), page.New()
	m, n, o := newModel(), newModel(), newModel()
	for range 500 {
		step(t, &one, p, m, 90)
		step(t, &between, r, o, 200)
		step(t, &other, q, n, 90)
		if !bytes.Equal(p.Bytes(), q.Bytes()) || p.Room() != q.Room() || p.Slots() != q.Slots() || p.Used() != q.Used() {
			t.Fatalf("% x\nand % x", p.Bytes(), q.Bytes())
		}
		sameAs(t, p, n)
		sameAs(t, r, o)
	}
}

// fill writes over bytes and over their spare room.
func fill(b []byte) {
	b = b[:cap(b)]
	for i := range b {
		b[i] = 0xa5
	}
}

// What is handed in is not changed, its spare room neither, and not kept.
func TestHandedIn(t *testing.T) {
	p, m := page.New(), newModel()
	data := append(make([]byte, 0, 64), "abcdef"...)
	x := api.Tuple{Row: 1, Xmin: 2, Xmax: 3, Next: api.TID{Page: 4, Slot: 5}, Data: data[:3]}
	for range 3 {
		p.Insert(x)
		m.insert(x)
	}
	if !bytes.Equal(data[:cap(data)], append([]byte("abcdef"), make([]byte, cap(data)-6)...)) {
		t.Errorf("Insert changed what was handed in: % x", data[:cap(data)])
	}
	fill(data)
	sameAs(t, p, m)
	b := append(p.Bytes(), 1, 2, 3)
	was := bytes.Clone(b)
	q, e := page.Load(b[:512])
	if e != api.OK {
		t.Fatalf("Load = %d", e)
	}
	m.stamp(1, 9, none())
	q.Stamp(1, 9, none())
	m.insert(plain(50))
	q.Insert(plain(50))
	m.free(0)
	q.Free(0)
	page.Load(b)
	if !bytes.Equal(b, was) {
		t.Errorf("changed: % x", b)
	}
	fill(b)
	sameAs(t, q, m)
}

// What is told is its own: neither another answer nor the page changes where it is written over.
func TestToldIsItsOwn(t *testing.T) {
	p, m := filled(t, sizes(20, 30, 0)), newModel()
	for _, n := range []int{20, 30, 0} {
		m.insert(plain(n))
	}
	first, _ := p.Get(0)
	again, _ := p.Get(0)
	fill(first.Data)
	for slot := range 3 {
		x, _ := p.Get(slot)
		fill(x.Data)
	}
	b := p.Bytes()
	fill(p.Bytes())
	if !sameTuple(again, plain(20)) || !bytes.Equal(b, m.bytes()) {
		t.Errorf("an answer changed: %+v, % x", again, b)
	}
	sameAs(t, p, m)
	fill(b)
	sameAs(t, p, m)
	p.Free(0)
	p.Insert(plain(9))
	if !sameTuple(again, plain(20)) {
		t.Errorf("an answer changed: %+v", again)
	}
	q, r := page.New(), page.New()
	q.Insert(plain(1))
	tells(t, r, 0, 0, 474)
}
