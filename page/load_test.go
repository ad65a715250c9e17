package page_test

import (
	"bytes"
	"encoding/binary"
	"strconv"
	"testing"

	"lapidary/api"
	"lapidary/page"
)

// loads checks what Load says of bytes, and that the page is that of them.
func loads(t *testing.T, what string, b []byte, ok bool) {
	t.Helper()
	p, e := page.Load(b)
	switch {
	case !ok && (e != api.ErrForm || p != nil):
		t.Errorf("%s: Load = %v, %d", what, p != nil, e)
	case ok && (e != api.OK || p == nil):
		t.Errorf("%s: Load = %v, %d", what, p != nil, e)
	case ok:
		sameAs(t, p, modelOf(b))
	}
}

// sample is a page with a free slot, and with holes ahead of, between and behind versions.
func sample() *model {
	a := api.Tuple{Row: 7, Xmin: 8, Xmax: 9, Next: api.TID{Page: 3, Slot: 2}, Data: []byte("abcdefghij")}
	return &model{begin: 300, slots: []*held{{a, 320}, nil, {plain(0), 360}, {plain(12), 450}}}
}

// blank is a page whose data are all 0, with a slot for each pair: where its version's
// bytes begin, and how many they are. Bytes that are all 0 are a right version's.
func blank(begin int, slots ...[2]int) []byte {
	b := make([]byte, 512)
	binary.LittleEndian.PutUint16(b, uint16(len(slots)))
	binary.LittleEndian.PutUint16(b[2:], uint16(begin))
	for i, s := range slots {
		if at := 4 + 4*i; at < 509 {
			binary.LittleEndian.PutUint16(b[at:], uint16(s[0]))
			binary.LittleEndian.PutUint16(b[at+2:], uint16(s[1]))
		}
	}
	return b
}

// P5.2: bytes that are a page's, and go on as one.
func TestLoad(t *testing.T) {
	loads(t, "sample", sample().bytes(), true)
	loads(t, "new", page.New().Bytes(), true)
	for seed := range 200 {
		d, m := dice(seed), sample()
		p, _ := page.Load(m.bytes())
		for range 20 {
			step(t, &d, p, m, 150)
			sameAs(t, p, m)
		}
	}
}

// P5.2: too few bytes, and too many.
func TestLoadSize(t *testing.T) {
	b := sample().bytes()
	for n := range 512 {
		loads(t, strconv.Itoa(n)+" bytes", b[:n], false)
		loads(t, strconv.Itoa(n)+" noughts", make([]byte, n), false)
	}
	loads(t, "nil", nil, false)
	loads(t, "513 bytes", append(bytes.Clone(b), 0), false)
	loads(t, "1024 bytes", append(bytes.Clone(b), b...), false)
	loads(t, "512 noughts", make([]byte, 512), false)
}

// P5.2: slots that reach beyond where data begin, data that begin beyond the page, a last
// slot that is free, and versions outside the data, too short, too long, one over another.
func TestLoadSlots(t *testing.T) {
	free := [2]int{}
	for _, c := range []struct {
		what  string
		begin int
		slots [][2]int
		ok    bool
	}{
		{"no slots", 512, nil, true},
		{"no slots", 5, nil, true},
		{"data behind the header", 4, nil, true},
		{"data in the header", 3, nil, false},
		{"data at 0", 0, nil, false},
		{"data beyond the page", 513, nil, false},
		{"data far beyond the page", 65535, nil, false},
		{"data beyond the page, with a slot", 513, [][2]int{{482, 30}}, false},
		{"slots up to the data", 8, [][2]int{{8, 30}}, true},
		{"slots a byte beyond", 7, [][2]int{{8, 30}}, false},
		{"three slots up to the data", 16, [][2]int{free, free, {100, 30}}, true},
		{"three slots a byte beyond", 15, [][2]int{free, free, {100, 30}}, false},
		{"slots beyond the page", 512, make([][2]int, 128), false},
		{"slots all over the page", 512, make([][2]int, 127), false},
		{"slots far beyond the page", 512, make([][2]int, 65535), false},
		{"a free slot alone", 512, [][2]int{free}, false},
		{"the last slot free", 400, [][2]int{{400, 40}, free}, false},
		{"the first slot free", 400, [][2]int{free, {400, 40}}, true},
		{"a version at the data's beginning", 482, [][2]int{{482, 30}}, true},
		{"a version a byte ahead of the data", 482, [][2]int{{481, 30}}, false},
		{"a version ahead of the data", 482, [][2]int{{200, 30}}, false},
		{"a version in the header", 482, [][2]int{{2, 30}}, false},
		{"a version in the slots", 482, [][2]int{{8, 30}}, false},
		{"a version at 0", 482, [][2]int{{0, 30}}, false},
		{"a version without bytes", 482, [][2]int{{490, 0}}, false},
		{"a version without bytes, not the last", 400, [][2]int{{490, 0}, {400, 40}}, false},
		{"a version without bytes at the end", 482, [][2]int{{512, 0}}, false},
		{"a version of no place", 482, [][2]int{{0, 1}, {482, 30}}, false},
		{"a version of 1 byte", 400, [][2]int{{450, 1}}, false},
		{"a version of 29 bytes", 400, [][2]int{{450, 29}}, false},
		{"a version of 30 bytes", 400, [][2]int{{450, 30}}, true},
		{"a version of 230 bytes", 200, [][2]int{{210, 230}}, true},
		{"a version of 231 bytes", 200, [][2]int{{210, 231}}, false},
		{"a version up to the end", 400, [][2]int{{472, 40}}, true},
		{"a version a byte beyond the end", 400, [][2]int{{472, 41}}, false},
		{"a version a byte beyond the end, of 30", 400, [][2]int{{483, 30}}, false},
		{"a version beyond the page", 400, [][2]int{{512, 30}}, false},
		{"a version far beyond the page", 400, [][2]int{{65535, 65535}}, false},
		{"a version that goes round", 400, [][2]int{{410, 65500}}, false},
		{"a version beyond, of a slot ahead", 400, [][2]int{{490, 30}, {400, 30}}, false},
		{"side by side", 400, [][2]int{{400, 40}, {440, 40}}, true},
		{"side by side, the other way round", 400, [][2]int{{440, 40}, {400, 40}}, true},
		{"the same place", 400, [][2]int{{400, 40}, {400, 40}}, false},
		{"over by a byte", 400, [][2]int{{400, 41}, {440, 40}}, false},
		{"over by a byte, the other way round", 400, [][2]int{{440, 40}, {400, 41}}, false},
		{"one within another", 400, [][2]int{{400, 100}, {430, 30}}, false},
		{"one around another", 400, [][2]int{{430, 30}, {400, 100}}, false},
		{"over one that isn't the next", 300, [][2]int{{300, 40}, {400, 40}, {339, 30}}, false},
		{"one beginning, two ends", 400, [][2]int{{400, 40}, {400, 30}}, false},
		{"three, between them holes", 300, [][2]int{{470, 30}, free, {310, 30}, {400, 60}}, true},
	} {
		loads(t, c.what+" "+strconv.Itoa(c.begin), blank(c.begin, c.slots...), c.ok)
	}
}

// P5.2: versions that aren't right.
func TestLoadRight(t *testing.T) {
	le := binary.LittleEndian
	const at = 400
	for _, field := range []int{0, 8, 16} {
		for _, n := range []uint64{0, 1, api.MaxXid, api.MaxXid + 1, api.MaxXid + 256, 1 << 48, 1 << 56, 1 << 63, 1<<64 - 1} {
			b := blank(at, [2]int{440, 30}, [2]int{at, 35})
			le.PutUint64(b[at+field:], n)
			loads(t, "a number "+strconv.Itoa(field), b, n <= api.MaxXid)
		}
	}
	for _, c := range []struct {
		page uint32
		slot uint16
		ok   bool
	}{
		{0, 0, true}, {1, 1, true}, {65536, 65535, true}, {1, 65535, true}, {65536, 1, true},
		{0, 1, false}, {1, 0, false}, {0, 65535, false}, {65536, 0, false}, {65537, 1, false}, {65537, 0, false}, {65537, 65535, false},
		{1 << 17, 1, false}, {1<<24 + 1, 1, false}, {1 << 31, 1, false}, {1<<32 - 1, 1, false}, {1<<32 - 1, 0, false}, {1<<32 - 1, 65535, false},
	} {
		b := blank(at, [2]int{440, 30}, [2]int{at, 35})
		le.PutUint32(b[at+24:], c.page)
		le.PutUint16(b[at+28:], c.slot)
		loads(t, "a Next", b, c.ok)
	}
}

// P5.2: a byte that belongs to nothing isn't 0: ahead of the data, in a hole, behind all.
func TestLoadNothing(t *testing.T) {
	was := sample().bytes()
	for at := range 512 {
		belongs := at < 20 || at >= 320 && at < 390 || at >= 450 && at < 492
		for _, x := range []byte{1, 128, 255} {
			b := bytes.Clone(was)
			b[at] ^= x
			if !belongs {
				loads(t, "byte "+strconv.Itoa(at), b, false)
			}
		}
		if !belongs && was[at] != 0 {
			t.Errorf("byte %d of the sample is %d", at, was[at])
		}
	}
	b := blank(16)
	b[16] = 1 // no version has the byte where the data begin
	loads(t, "the first byte of the data", b, false)
	b = blank(8)
	b[4] = 1
	loads(t, "the byte behind the header", b, false)
}

// P5.2, P1: of bytes with one or some that are others Load says what the chapter does.
func TestLoadChanged(t *testing.T) {
	full, _ := page.Load(sample().bytes())
	full.Insert(plain(100))
	full.Insert(plain(60))
	for i, was := range [][]byte{sample().bytes(), full.Bytes(), filled(t, sizes(200, 200, 6)).Bytes(), blank(200, [2]int{200, 30}, [2]int{}, [2]int{300, 100})} {
		for at := range 512 {
			for _, x := range []byte{0, 1, 2, 3, 5, 8, 29, 30, 31, 128, 230, 255, was[at] + 1, was[at] - 1, was[at] ^ 128} {
				b := bytes.Clone(was)
				b[at] = x
				loads(t, "changed at "+strconv.Itoa(at), b, modelOf(b) != nil)
			}
		}
		d := dice(i)
		for range 4000 {
			b := bytes.Clone(was)
			for range 1 + d.roll(3) {
				b[d.of(d.roll(4), d.roll(20), d.roll(20), d.roll(512))] = byte(d.of(d.roll(256), d.roll(4)))
			}
			loads(t, "changed", b, modelOf(b) != nil)
		}
	}
}

// P5.2: Load's page is another one each time.
func TestLoadTwice(t *testing.T) {
	b := sample().bytes()
	p, _ := page.Load(b)
	q, _ := page.Load(b)
	p.Free(3)
	p.Insert(plain(40))
	sameAs(t, q, sample())
	loads(t, "again", b, true)
}
