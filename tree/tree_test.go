package tree_test

import (
	"bytes"
	"math"
	"slices"
	"strings"
	"testing"

	"lapidary/api"
	"lapidary/tree"
)

// number is an entry by its number: keys rise as numbers do, and no two places are the same.
func number(i int) tree.Entry {
	return tree.Entry{Key: []byte{3, byte(i >> 8), byte(i)}, At: tid(i/7, i%7)}
}

// orders are ways in which n entries come or go.
func orders(n int) map[string][]int {
	d := dice(n)
	rising, falling, fromBoth, between := make([]int, n), make([]int, n), make([]int, n), make([]int, 0, n)
	for i := range n {
		rising[i], falling[i] = i, n-1-i
		fromBoth[i] = i / 2
		if i%2 == 1 {
			fromBoth[i] = n - 1 - i/2
		}
	}
	for first := range 2 { // the even ones, and then those between them
		for i := first; i < n; i += 2 {
			between = append(between, i)
		}
	}
	toMiddle := slices.Clone(fromBoth)
	slices.Reverse(toMiddle)
	return map[string][]int{"rising": rising, "falling": falling, "from both ends": fromBoth, "from the middle": toMiddle, "between": between, "shuffled": d.shuffled(n)}
}

// sizes are numbers of entries: none, one, as many as nodes may have at each height, one more, and one less.
func sizes() []int {
	return []int{0, 1, 2, 3, 4, 5, 7, 8, 9, 10, 16, 17, 31, 32, 33, 63, 64, 65, 66, 72, 73, 127, 128, 129, 511, 512, 513, 600}
}

// full is a tree of the entries 0 .. n - 1, come in this order.
func full(t *testing.T, order []int) pair {
	t.Helper()
	p := fresh()
	for _, i := range order {
		p.puts(t, number(i))
	}
	p.holds(t)
	return p
}

// The chapter's example.
func TestExample(t *testing.T) {
	x := tree.New()
	for _, e := range []tree.Entry{entry("b", 0, 1), entry("a", 0, 2), entry("b", 0, 0)} {
		if got := x.Insert(e); got != api.OK {
			t.Fatalf("Insert(%v) = %d", e, got)
		}
	}
	want := []tree.Entry{entry("a", 0, 2), entry("b", 0, 0), entry("b", 0, 1)}
	if l := x.Scan(nil, nil); !slices.EqualFunc(l, want, same) {
		t.Errorf("Scan = %v; want %v", l, want)
	}
}

// P8.1: a tree of no entry.
func TestNew(t *testing.T) {
	p := fresh()
	p.holds(t)
	if p.x.Len() != 0 || p.x.Height() != 1 {
		t.Errorf("Len %d, Height %d", p.x.Len(), p.x.Height())
	}
	for _, key := range []string{"", "\x00", "a", strings.Repeat("a", 600), strings.Repeat("a", 601)} {
		p.lacks(t, entry(key, 0, 0))
		p.scans(t, []byte(key), nil)
		p.scans(t, nil, []byte(key))
		p.scans(t, []byte(key), []byte(key))
	}
	p.prunes(t)
	p.prunes(t, tid(0, 0), tid(1, 1))
	p.holds(t)
}

// P8.1: a tree of one entry.
func TestOne(t *testing.T) {
	for _, e := range []tree.Entry{{}, entry("", 5, 6), entry("a", 0, 0), entry("\x00", -1, -1), entry(strings.Repeat("\xff", 600), math.MaxInt, math.MinInt)} {
		p := of(t, e)
		p.holds(t)
		if p.x.Len() != 1 || p.x.Height() != 1 {
			t.Errorf("Len %d, Height %d", p.x.Len(), p.x.Height())
		}
		p.refuses(t, e, api.ErrExists)
		p.takes(t, e)
		p.holds(t)
		p.lacks(t, e)
		p.puts(t, e)
		p.prunes(t, e.At)
		p.holds(t)
		p.puts(t, e)
		p.holds(t)
	}
}

// P8.1: trees of each size to some thousands, in each order of coming.
func TestInsert(t *testing.T) {
	for _, n := range append(sizes(), 5000) {
		for name, order := range orders(n) {
			p := full(t, order)
			if n > 8*8*8*8 && p.x.Height() < 5 || n > 8*8 && p.x.Height() < 3 || n > 8 && p.x.Height() < 2 {
				t.Errorf("%d entries, %s: Height = %d", n, name, p.x.Height())
			}
		}
	}
}

// P8.1: leaves that came by rising keys, filled up by keys between them, at each height.
func TestFilledUp(t *testing.T) {
	for n := 1; n < 700; n += 3 {
		for _, step := range []int{2, 3} {
			p := fresh()
			for first := range step {
				for i := first; i < n; i += step {
					p.puts(t, number(i))
				}
			}
			p.holds(t)
		}
	}
}

// P8.1: an entry that is there already, at each height.
func TestInsertAgain(t *testing.T) {
	for _, n := range sizes() {
		p := full(t, dicedOrder(n))
		for i := range n {
			if e := p.x.Insert(number(i)); e != api.ErrExists {
				t.Fatalf("%d entries: Insert(%v) = %d", n, number(i), e)
			}
			p.counts(t)
		}
		p.holds(t)
		if n > 0 {
			p.refuses(t, number(0), api.ErrExists)
			p.refuses(t, number(n-1), api.ErrExists)
			p.refuses(t, number(n/2), api.ErrExists)
		}
	}
}

// dicedOrder are the numbers 0 .. n - 1, in an order by a rule.
func dicedOrder(n int) []int {
	d := dice(n + 77)
	return d.shuffled(n)
}

// P8.1: keys of no byte, of as many as there may be, and of more.
func TestKeyLength(t *testing.T) {
	p := fresh()
	for _, n := range []int{0, 1, 2, 61, 62, 255, 256, 511, 512, 599, 600} {
		p.puts(t, entry(strings.Repeat("k", n), 0, n))
		p.refuses(t, entry(strings.Repeat("k", n), 0, n), api.ErrExists)
	}
	p.holds(t)
	for _, n := range []int{601, 602, 1000, 70000} {
		for _, e := range []tree.Entry{{Key: make([]byte, n)}, entry(strings.Repeat("k", n), 0, 600), entry(strings.Repeat("\xff", n), 0, 0)} {
			p.refuses(t, e, api.ErrLong)
			fresh().refuses(t, e, api.ErrLong)
			p.lacks(t, e)
			fresh().lacks(t, e)
		}
	}
	p.takes(t, entry(strings.Repeat("k", 600), 0, 600))
	p.takes(t, entry("", 0, 0))
	p.holds(t)
}

// P8.1: keys of which one is the beginning of another one, and bytes at their bounds.
func TestKeyOrder(t *testing.T) {
	keys := []string{"", "\x00", "\x00\x00", "\x00\x01", "\x01", "\x01\x00", "a", "a\x00", "a\x00b", "a\x01", "aa", "aaa", "ab", "a\x7f", "a\x80", "a\xff", "a\xff\xff", "b", "\x7f", "\x80", "\xff", "\xff\x00", "\xff\xff", "\xff\xff\xff"}
	d := dice(5)
	for range 20 {
		p := fresh()
		for _, i := range d.shuffled(len(keys)) {
			p.puts(t, entry(keys[i], 3, 4))
		}
		p.holds(t)
		for i, e := range p.x.Scan(nil, nil) {
			if string(e.Key) != keys[i] {
				t.Fatalf("place %d: %q; want %q", i, e.Key, keys[i])
			}
		}
		for _, from := range keys {
			for _, to := range keys {
				p.scans(t, []byte(from), []byte(to))
			}
		}
	}
}

// P8.1: entries of one key stand by Page, and then by Slot.
func TestPlaceOrder(t *testing.T) {
	numbers := []int{math.MinInt, -2, -1, 0, 1, 2, 255, 1 << 32, math.MaxInt}
	var want []tree.Entry
	for _, page := range numbers {
		for _, slot := range numbers {
			want = append(want, entry("k", page, slot))
		}
	}
	d := dice(9)
	for range 5 {
		p := of(t, entry("j", 9, 9), entry("kk", -9, -9))
		for _, i := range d.shuffled(len(want)) {
			p.puts(t, want[i])
		}
		p.holds(t)
		if l := p.x.Scan([]byte("k"), []byte("kk")); !slices.EqualFunc(l, want, same) {
			t.Fatalf("Scan = %v; want %v", l, want)
		}
		for _, i := range d.shuffled(len(want)) {
			p.refuses(t, want[i], api.ErrExists)
			p.takes(t, want[i])
			p.lacks(t, want[i])
		}
		p.holds(t)
	}
}

// P8.1: all go, in each order, and come again; the height goes down with them.
func TestDelete(t *testing.T) {
	for _, n := range append(sizes(), 2000) {
		for name, order := range orders(n) {
			p := full(t, dicedOrder(n))
			for k, i := range order {
				p.takes(t, number(i))
				if n <= 129 || k%97 == 0 {
					p.lacks(t, number(i))
				}
			}
			p.holds(t)
			if p.x.Len() != 0 || p.x.Height() != 1 {
				t.Errorf("%d entries, %s: Len %d, Height %d", n, name, p.x.Len(), p.x.Height())
			}
			for _, i := range order {
				p.puts(t, number(i))
			}
			p.holds(t)
		}
	}
}

// P8.1: what goes in again behind a Delete, with each entry of a tree in turn.
func TestDeleteOne(t *testing.T) {
	for _, n := range []int{1, 2, 8, 9, 40, 73} {
		for i := range n {
			p := full(t, dicedOrder(n))
			p.takes(t, number(i))
			p.holds(t)
			p.lacks(t, number(i))
			p.puts(t, number(i))
			p.holds(t)
			p.refuses(t, number(i), api.ErrExists)
		}
	}
}

// P8.1: Delete of what isn't there: another key, another place, a key that is too long.
func TestDeleteNone(t *testing.T) {
	for _, n := range sizes() {
		p := fresh()
		for _, i := range dicedOrder(n) {
			p.puts(t, number(2*i+2))
		}
		height := p.x.Height()
		for i := range n + 2 {
			between, there := number(2*i+1), number(2*i+2)
			long := tree.Entry{Key: slices.Concat(there.Key, make([]byte, 598)), At: there.At}
			for _, e := range []tree.Entry{
				between, {Key: between.Key, At: there.At}, {Key: there.Key, At: between.At},
				{Key: there.Key, At: tid(there.At.Page, there.At.Slot+1)}, {Key: there.Key, At: tid(there.At.Page+1, there.At.Slot)},
				{Key: there.Key, At: tid(there.At.Page, there.At.Slot-1)}, {Key: there.Key, At: tid(there.At.Page-1, there.At.Slot)},
				{Key: there.Key[:2], At: there.At}, {Key: append(bytes.Clone(there.Key), 0), At: there.At}, {At: there.At}, long,
			} {
				if got := p.x.Delete(e); got != api.ErrNone {
					t.Fatalf("%d entries: Delete(%v) = %d", n, e, got)
				}
			}
		}
		p.stays(t, height)
	}
}

// P8.1: Prune of no place, of such as there aren't, of one, of one told twice, of many.
func TestPrune(t *testing.T) {
	for _, n := range sizes() {
		p := full(t, dicedOrder(n))
		p.prunes(t)
		p.prunes(t, []api.TID{}...)
		p.prunes(t, tid(-1, -1), tid(9999, 0), tid(0, 7), tid(math.MinInt, math.MaxInt))
		p.holds(t)
		if n == 0 {
			continue
		}
		one := number(n / 2)
		p.prunes(t, one.At)
		p.holds(t)
		p.lacks(t, one)
		p.prunes(t, one.At)
		p.puts(t, one)
		p.prunes(t, one.At, one.At, tid(-1, 0), one.At)
		p.holds(t)
		p.prunes(t, number(0).At, number(n-1).At, number(n/3).At, one.At, number(n/3).At)
		p.holds(t)
		p.puts(t, one)
		p.holds(t)
	}
}

// P8.1: Prune of all, and of all but one, in one call, and what goes in behind it.
func TestPruneAll(t *testing.T) {
	for _, n := range append(sizes(), 2000) {
		for _, left := range []int{0, 1, n / 2} {
			p := full(t, dicedOrder(n))
			var l []api.TID
			for i := left; i < n; i++ {
				l = append(l, number(i).At)
			}
			slices.Reverse(l)
			p.prunes(t, l...)
			p.holds(t)
			for i := range n {
				p.puts(t, number(i))
			}
			p.holds(t)
		}
	}
}

// P8.1: Prune of those of whole nodes: of each run of entries that stand one behind the other.
func TestPruneRuns(t *testing.T) {
	for _, n := range []int{9, 20, 65, 130} {
		for _, run := range []int{4, 5, 8, 16, 32, 64} {
			for first := 0; first < n; first += 3 {
				p := full(t, orders(n)["rising"])
				var l []api.TID
				for i := first; i < min(first+run, n); i++ {
					l = append(l, number(i).At)
				}
				p.prunes(t, l...)
				p.holds(t)
			}
		}
	}
}

// P8.1: a place of several entries: of each key that has it one goes.
func TestPruneOfManyKeys(t *testing.T) {
	p := fresh()
	for i := range 100 {
		e := number(i)
		p.puts(t, tree.Entry{Key: e.Key, At: tid(1, 2)})
		p.puts(t, tree.Entry{Key: e.Key, At: tid(1, 3)})
		p.puts(t, tree.Entry{Key: e.Key, At: tid(2, 2)})
	}
	if n := p.x.Prune([]api.TID{tid(1, 2)}); n != 100 {
		t.Errorf("Prune = %d", n)
	}
	p.m.prune([]api.TID{tid(1, 2)})
	p.holds(t)
	p.prunes(t, tid(2, 2), tid(2, 2))
	p.holds(t)
	p.prunes(t, tid(3, 1), tid(2, 1), tid(3, 2))
	p.holds(t)
	p.prunes(t, tid(1, 3), tid(1, 2))
	p.holds(t)
}

// P8.1: from and to that are there, that aren't, that are too long, and that are turned round.
func TestScan(t *testing.T) {
	for _, n := range []int{0, 1, 2, 8, 9, 50, 73, 130} {
		p := fresh()
		for _, i := range dicedOrder(n) {
			p.puts(t, number(2*i+2))
		}
		bounds := [][]byte{nil, {}, {0}, {3}, {3, 0}, {3, 1, 5}, {4}, {255}, bytes.Repeat([]byte{255}, 601), bytes.Repeat([]byte{0}, 601), bytes.Repeat([]byte{3}, 70000)}
		for i := range 2*n + 4 {
			bounds = append(bounds, number(i).Key)
		}
		bounds = append(bounds, append(number(n).Key, 0), append(number(n+1).Key, 255), slices.Concat(number(n).Key, make([]byte, 700)))
		for _, from := range bounds {
			for _, to := range bounds {
				p.scans(t, from, to)
			}
		}
	}
}

// P8.1: keys of many entries, over several nodes: each of them is told, or none.
func TestScanOfOneKey(t *testing.T) {
	for _, each := range []int{1, 3, 8, 9, 20, 70} {
		p := fresh()
		for i := range each {
			for _, key := range []string{"b", "a", "c", "bb", "d", "", "b\x00"} {
				p.puts(t, entry(key, i*5%7, i))
			}
		}
		bounds := []string{"", "\x00", "a", "a\x00", "ab", "b", "b\x00", "b\x00\x00", "bb", "bc", "c", "d", "d\x00", "e"}
		for _, from := range bounds {
			for _, to := range bounds {
				p.scans(t, []byte(from), []byte(to))
			}
		}
		if l := p.x.Scan([]byte("b"), []byte("b\x00")); len(l) != each {
			t.Errorf("%d entries of one key; want %d", len(l), each)
		}
		p.takes(t, entry("b", 0, 0))
		p.scans(t, []byte("b"), []byte("b\x00"))
		p.scans(t, []byte("a\x00"), []byte("bb"))
	}
}

// P8.1: the height behind entries that came and went, again and again.
func TestHeightAgain(t *testing.T) {
	p := fresh()
	for round := range 6 {
		n := 300 + 200*round
		for _, i := range dicedOrder(n) {
			p.puts(t, number(i))
		}
		if p.x.Height() < 4 && n > 512 {
			t.Errorf("%d entries: Height = %d", n, p.x.Height())
		}
		for i := range n {
			if k := i * 7 % n; n%7 != 0 && k%50 != round {
				p.takes(t, number(k))
			}
		}
		p.holds(t)
		var l []api.TID
		for _, e := range p.m.l {
			l = append(l, e.At)
		}
		p.prunes(t, l[round%2:]...)
		p.holds(t)
		p.prunes(t, l...)
		if p.x.Len() != 0 || p.x.Height() != 1 {
			t.Errorf("Len %d, Height %d", p.x.Len(), p.x.Height())
		}
	}
}

// P8.1: a queue: each that comes stands behind all others, each that goes ahead of them.
func TestQueue(t *testing.T) {
	for _, n := range []int{1, 8, 9, 70} {
		p := fresh()
		for i := range 1000 {
			p.puts(t, number(i))
			if i >= n {
				p.takes(t, number(i-n))
			}
		}
		p.holds(t)
	}
}

// P8.1: a nil tree, whatever else applies.
func TestNil(t *testing.T) {
	var x *tree.Tree
	for _, e := range []tree.Entry{{}, entry("a", 0, 0), entry(strings.Repeat("a", 600), 1, 1), entry(strings.Repeat("a", 601), -1, -1)} {
		if got := x.Insert(e); got != api.ErrNone {
			t.Errorf("Insert(%v) = %d", e, got)
		}
		if got := x.Delete(e); got != api.ErrNone {
			t.Errorf("Delete(%v) = %d", e, got)
		}
		if n := x.Prune([]api.TID{e.At, e.At}); n != 0 {
			t.Errorf("Prune = %d", n)
		}
		for _, to := range [][]byte{nil, {}, {255}, e.Key} {
			if l := x.Scan(e.Key, to); len(l) != 0 {
				t.Errorf("Scan(%v, %v) = %v", e.Key, to, l)
			}
		}
	}
	if x.Prune(nil) != 0 || x.Len() != 0 || x.Height() != 0 {
		t.Errorf("Prune %d, Len %d, Height %d", x.Prune(nil), x.Len(), x.Height())
	}
}

// P1, P2 and what DOC.md says of memory: what is handed in stays untouched and isn't kept.
func TestHandedIn(t *testing.T) {
	p := fresh()
	room := make([]byte, 40)
	key, to := room[4:7], room[20:23]
	places := make([]api.TID, 6)
	untouched := func(i int) {
		t.Helper()
		want := make([]byte, 40)
		copy(want[4:], number(i).Key)
		copy(want[20:], number(i+9).Key)
		if !bytes.Equal(room, want) {
			t.Fatalf("what was handed in is %v; it was %v", room, want)
		}
	}
	for i := range 200 {
		copy(key, number(i).Key)
		copy(to, number(i+9).Key)
		e := tree.Entry{Key: key, At: number(i).At}
		p.puts(t, e)
		untouched(i)
		p.refuses(t, e, api.ErrExists)
		untouched(i)
		if i%3 == 0 {
			p.takes(t, e)
			untouched(i)
			p.lacks(t, e)
			p.puts(t, e)
		}
		p.scans(t, key, to)
		untouched(i)
		copy(places, []api.TID{number(i / 2).At, tid(-1, 0), number(i / 3).At})
		was := slices.Clone(places)
		if i%5 == 0 {
			p.prunes(t, places[:3]...)
			p.holds(t)
		}
		if !slices.Equal(places, was) {
			t.Fatalf("Prune changed its places: %v", places)
		}
		clear(room)
		clear(places)
		p.holds(t)
	}
}

// spoil writes over a list, its spare room, and the keys with theirs.
func spoil(l []tree.Entry) {
	for _, e := range l {
		key := e.Key[:cap(e.Key)]
		for i := range key {
			key[i] = 0xee
		}
	}
	l = l[:cap(l)]
	for i := range l {
		l[i] = entry("spoilt", 8, 8)
	}
}

// P2 and what DOC.md says of memory: an answer is its own: writing over it changes nothing.
func TestTold(t *testing.T) {
	for _, n := range []int{1, 8, 9, 73, 200} {
		p := full(t, dicedOrder(n))
		all, some := p.x.Scan(nil, nil), p.x.Scan(number(2).Key, number(7).Key)
		spoil(all)
		if !slices.EqualFunc(some, p.m.scan(number(2).Key, number(7).Key), same) {
			t.Fatalf("an earlier answer was changed: %v", some)
		}
		p.holds(t)
		spoil(some)
		p.holds(t)
		for i := range n {
			p.refuses(t, number(i), api.ErrExists)
		}
		later := p.x.Scan(nil, nil)
		want := p.m.scan(nil, nil)
		for i := range n / 2 {
			p.takes(t, number(i))
			p.puts(t, tree.Entry{Key: number(i).Key, At: tid(900, i)})
		}
		if !slices.EqualFunc(later, want, same) {
			t.Fatalf("an earlier answer was changed: %v", later)
		}
	}
}

// What DOC.md says of memory: no key of an answer shares its room with another one.
func TestToldKeys(t *testing.T) {
	p := fresh()
	for i := range 100 {
		p.puts(t, tree.Entry{Key: number(i / 10).Key, At: number(i).At})
	}
	l := p.x.Scan(nil, nil)
	for i := range l {
		key := l[i].Key[:cap(l[i].Key)]
		for k := range key {
			key[k] = 0xee
		}
		if !slices.EqualFunc(l[i+1:], p.m.l[i+1:], same) {
			t.Fatalf("the key at %d shares its room with a later one", i)
		}
	}
	p.holds(t)
}

// P8.1, P1, P2: whatever trees are told, each tells what the chapter says; two that are told the same tell the same.
func TestWalk(t *testing.T) {
	for seed := range 12 {
		d := dice(seed)
		a, b, other := fresh(), tree.New(), fresh()
		for i := range 1500 {
			e := tree.Entry{Key: d.key(), At: d.place()}
			grows := (i/250)%2 == 0
			switch k := d.roll(20); {
			case k < 2 && len(a.m.l) > 0:
				there := a.m.l[d.roll(len(a.m.l))]
				a.puts(t, there)
				b.Insert(there)
			case k == 2:
				l := []api.TID{d.place(), d.place(), e.At}[:d.roll(4)]
				if !grows || d.roll(5) == 0 {
					a.prunes(t, l...)
					b.Prune(l)
				}
			case grows && k < 16 || k < 6:
				a.puts(t, e)
				b.Insert(e)
			case k < 18 && len(a.m.l) > 0:
				there := a.m.l[d.roll(len(a.m.l))]
				a.takes(t, there)
				b.Delete(there)
			default:
				a.takes(t, e)
				b.Delete(e)
				other.puts(t, e)
			}
			if a.x.Height() != b.Height() || a.x.Len() != b.Len() {
				t.Fatalf("two trees told the same: Height %d and %d, Len %d and %d", a.x.Height(), b.Height(), a.x.Len(), b.Len())
			}
			if i%10 == 0 {
				a.holds(t)
				a.scans(t, d.key(), d.key())
				a.scans(t, e.Key, nil)
			}
		}
		pair{b, a.m}.holds(t)
		other.holds(t)
	}
}
