package room_test

import (
	"math"
	"slices"
	"testing"

	"lapidary/api"
	"lapidary/room"
)

// sets tells a map a page's room, which it takes.
func sets(t *testing.T, m *room.Map, page, n int) {
	t.Helper()
	if e := m.Set(page, n); e != api.OK {
		t.Errorf("Set(%d, %d) = %d", page, n, e)
	}
}

// with is a map of pages with these rooms.
func with(t *testing.T, rooms ...int) *room.Map {
	t.Helper()
	m := room.New()
	for i, n := range rooms {
		sets(t, m, i, n)
	}
	return m
}

// finds checks Find; want -1: none.
func finds(t *testing.T, m *room.Map, need, want int) {
	t.Helper()
	page, ok := m.Find(need)
	if ok != (want >= 0) || page != max(want, 0) {
		t.Errorf("Find(%d) = %d, %t; want %d", need, page, ok, want)
	}
}

// holds checks all that a map tells against its pages' rooms.
func holds(t *testing.T, m *room.Map, rooms ...int) {
	t.Helper()
	if m.Pages() != len(rooms) {
		t.Errorf("Pages = %d; want %d", m.Pages(), len(rooms))
	}
	for i, n := range rooms {
		if m.Get(i) != n {
			t.Errorf("Get(%d) = %d; want %d", i, m.Get(i), n)
		}
	}
	for _, i := range []int{len(rooms), len(rooms) + 1, api.MaxPages, -1, math.MinInt, math.MaxInt} {
		if i < 0 || i >= len(rooms) {
			if m.Get(i) != -1 {
				t.Errorf("Get(%d) = %d", i, m.Get(i))
			}
		}
	}
	for need := -2; need < api.PageSize+3; need++ {
		finds(t, m, need, slices.IndexFunc(rooms, func(n int) bool { return n >= max(need, 0) }))
	}
}

// P6.1: the chapter's example.
func TestExample(t *testing.T) {
	m := with(t, 5, 50, 50)
	finds(t, m, 6, 1)
	finds(t, m, 51, -1)
	holds(t, m, 5, 50, 50)
}

// P6.1: a map without pages.
func TestNew(t *testing.T) {
	holds(t, room.New())
	finds(t, room.New(), math.MinInt, -1)
	finds(t, room.New(), math.MaxInt, -1)
}

// P6.1: rooms at their bounds and beyond them.
func TestRooms(t *testing.T) {
	for _, c := range [][2]int{
		{-1, -1}, {-2, -1}, {-100, -1}, {math.MinInt, -1}, {0, 0}, {1, 1}, {200, 200}, {474, 474},
		{api.PageSize - 1, api.PageSize - 1}, {api.PageSize, api.PageSize}, {api.PageSize + 1, api.PageSize}, {1 << 32, api.PageSize}, {math.MaxInt, api.PageSize},
	} {
		m := with(t, c[0])
		holds(t, m, c[1])
		sets(t, m, 1, 7)
		holds(t, m, c[1], 7)
		sets(t, m, 1, c[0])
		holds(t, m, c[1], c[1])
		sets(t, m, 0, 3)
		holds(t, m, 3, c[1])
	}
}

// P6.1: a page's room is the one that was set last; the least page that has enough is found.
func TestSetAgain(t *testing.T) {
	m := with(t, 5, 50, 50, 7)
	finds(t, m, 6, 1)
	sets(t, m, 1, 0)
	finds(t, m, 6, 2)
	sets(t, m, 2, -1)
	finds(t, m, 6, 3)
	holds(t, m, 5, 0, -1, 7)
	sets(t, m, 0, 6)
	finds(t, m, 6, 0)
	sets(t, m, 3, 512)
	holds(t, m, 6, 0, -1, 512)
	sets(t, m, 2, 512)
	holds(t, m, 6, 0, 512, 512)
}

// P6.1: a need below 0 is one of 0: a page whose room is -1 has not even that.
func TestNeed(t *testing.T) {
	m := with(t, -1, -5, 0, 3)
	for _, need := range []int{math.MinInt, -512, -2, -1, 0} {
		finds(t, m, need, 2)
	}
	finds(t, m, 1, 3)
	finds(t, m, 3, 3)
	finds(t, m, 4, -1)
	finds(t, with(t, -1), -1, -1)
	finds(t, with(t, -1), math.MinInt, -1)
	m = with(t, api.PageSize-1, api.PageSize+9)
	finds(t, m, api.PageSize-1, 0)
	finds(t, m, api.PageSize, 1)
	finds(t, m, api.PageSize+1, -1)
	finds(t, m, api.PageSize+9, -1)
	finds(t, m, math.MaxInt, -1)
}

// P6.1: pages that are none, and such as come too soon; nothing has changed.
func TestSetWrong(t *testing.T) {
	m := room.New()
	var rooms []int
	for n := range 4 {
		for _, page := range []int{-1, -2, math.MinInt, api.MaxPages, api.MaxPages + 1, math.MaxInt} {
			if e := m.Set(page, 9); e != api.ErrArg {
				t.Errorf("%d pages: Set(%d, 9) = %d", n, page, e)
			}
		}
		for _, page := range []int{n + 1, n + 2, 100, api.MaxPages - 1} {
			if e := m.Set(page, 9); e != api.ErrForm {
				t.Errorf("%d pages: Set(%d, 9) = %d", n, page, e)
			}
		}
		holds(t, m, rooms...)
		sets(t, m, n, 10*n)
		rooms = append(rooms, 10*n)
		holds(t, m, rooms...)
	}
}

// P6.1: as many pages as there may be.
func TestMaxPages(t *testing.T) {
	m := room.New()
	var rooms []int
	for i := range api.MaxPages {
		if i < api.MaxPages-1 {
			if e := m.Set(i+1, 1); e != api.ErrForm {
				t.Errorf("%d pages: Set(%d, 1) = %d", i, i+1, e)
			}
		}
		sets(t, m, i, i)
		rooms = append(rooms, i)
		finds(t, m, i, i)
		finds(t, m, i+1, -1)
	}
	if e := m.Set(api.MaxPages, 1); e != api.ErrArg {
		t.Errorf("Set(%d, 1) = %d", api.MaxPages, e)
	}
	holds(t, m, rooms...)
	sets(t, m, api.MaxPages-1, 3)
	rooms[api.MaxPages-1] = 3
	holds(t, m, rooms...)
}

// P6.1: a nil map.
func TestNil(t *testing.T) {
	var m *room.Map
	for _, page := range []int{0, 1, -1, api.MaxPages, math.MaxInt, math.MinInt} {
		for _, n := range []int{0, -1, -2, 5, math.MaxInt} {
			if e := m.Set(page, n); e != api.ErrNone {
				t.Errorf("Set(%d, %d) = %d", page, n, e)
			}
			finds(t, m, n, -1)
		}
		if m.Get(page) != -1 || m.Pages() != 0 {
			t.Errorf("Get(%d) = %d, Pages = %d", page, m.Get(page), m.Pages())
		}
	}
}

// P6.1, P1, P2: whatever maps are told, each tells what it was told itself.
func TestWalk(t *testing.T) {
	maps := [3]*room.Map{room.New(), room.New(), room.New()}
	var rooms [3][]int
	x := uint64(1)
	roll := func(n int) int {
		x = x*6364136223846793005 + 1442695040888963407
		return int(x >> 33 % uint64(n))
	}
	for i := range 3000 {
		k := i % 3
		page, n := roll(len(rooms[k])+4)-1, roll(530)-9
		want := api.OK
		switch {
		case page < 0 || page >= api.MaxPages:
			want = api.ErrArg
		case page > len(rooms[k]):
			want = api.ErrForm
		case page == len(rooms[k]):
			rooms[k] = append(rooms[k], n)
		}
		if want == api.OK {
			rooms[k][page] = min(max(n, -1), api.PageSize)
		}
		if e := maps[k].Set(page, n); e != want {
			t.Fatalf("%d pages: Set(%d, %d) = %d; want %d", len(rooms[k]), page, n, e, want)
		}
		holds(t, maps[k], rooms[k]...)
	}
}
