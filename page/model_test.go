package page_test

import (
	"bytes"
	"encoding/binary"
	"slices"
	"testing"

	"lapidary/api"
	"lapidary/page"
)

// The chapter's numbers, spelt out here so that a slip in the program's can't hide.
const (
	headerBytes = 4
	slotBytes   = 4
	versionHead = 30
)

func none() api.TID { return api.TID{Page: -1, Slot: -1} }

// held is a version, and where its bytes begin.
type held struct {
	t  api.Tuple
	at int
}

func (h *held) size() int { return versionHead + len(h.t.Data) }

// model is a page as the chapter tells it, made of plain values instead of bytes.
type model struct {
	slots []*held // nil: free
	begin int
}

func newModel() *model { return &model{begin: api.PageSize} }

func rightTuple(t api.Tuple) bool {
	return t.Row <= api.MaxXid && t.Xmin <= api.MaxXid && rightStamp(t.Xmax, t.Next) && len(t.Data) <= api.MaxRow
}

func rightStamp(xmax uint64, n api.TID) bool {
	inside := 0 <= n.Page && n.Page <= 65535 && 0 <= n.Slot && n.Slot <= 65534
	return xmax <= api.MaxXid && (n == none() || inside)
}

func (m *model) room() int {
	room := api.PageSize - headerBytes - slotBytes*len(m.slots) - versionHead
	if !slices.Contains(m.slots, nil) {
		room -= slotBytes
	}
	for _, h := range m.slots {
		if h != nil {
			room -= h.size()
		}
	}
	if room < 0 {
		return -1
	}
	return room
}

func (m *model) insert(t api.Tuple) (int, api.Errno) {
	if !rightTuple(t) {
		return 0, api.ErrForm
	}
	if len(t.Data) > m.room() {
		return 0, api.ErrFull
	}
	slot := slices.Index(m.slots, nil)
	if slot < 0 {
		slot = len(m.slots)
		m.slots = append(m.slots, nil)
	}
	t.Data = bytes.Clone(t.Data)
	h := &held{t: t}
	if m.begin-h.size() < headerBytes+slotBytes*len(m.slots) {
		m.begin = api.PageSize
		for _, x := range m.slots {
			if x != nil {
				m.begin -= x.size()
				x.at = m.begin
			}
		}
	}
	m.begin -= h.size()
	h.at = m.begin
	m.slots[slot] = h
	return slot, api.OK
}

func (m *model) there(slot int) bool {
	return slot >= 0 && slot < len(m.slots) && m.slots[slot] != nil
}

func (m *model) stamp(slot int, xmax uint64, next api.TID) api.Errno {
	if !rightStamp(xmax, next) {
		return api.ErrForm
	}
	if !m.there(slot) {
		return api.ErrNone
	}
	m.slots[slot].t.Xmax, m.slots[slot].t.Next = xmax, next
	return api.OK
}

func (m *model) free(slot int) api.Errno {
	if !m.there(slot) {
		return api.ErrNone
	}
	m.slots[slot] = nil
	for n := len(m.slots); n > 0 && m.slots[n-1] == nil; n-- {
		m.slots = m.slots[:n-1]
	}
	return api.OK
}

func (m *model) bytes() []byte {
	b := make([]byte, api.PageSize)
	binary.LittleEndian.PutUint16(b, uint16(len(m.slots)))
	binary.LittleEndian.PutUint16(b[2:], uint16(m.begin))
	for i, h := range m.slots {
		if h == nil {
			continue
		}
		slot, v := b[headerBytes+slotBytes*i:], b[h.at:]
		binary.LittleEndian.PutUint16(slot, uint16(h.at))
		binary.LittleEndian.PutUint16(slot[2:], uint16(h.size()))
		binary.LittleEndian.PutUint64(v, h.t.Row)
		binary.LittleEndian.PutUint64(v[8:], h.t.Xmin)
		binary.LittleEndian.PutUint64(v[16:], h.t.Xmax)
		binary.LittleEndian.PutUint32(v[24:], uint32(h.t.Next.Page+1))
		binary.LittleEndian.PutUint16(v[28:], uint16(h.t.Next.Slot+1))
		copy(v[versionHead:], h.t.Data)
	}
	return b
}

// modelOf is the page of which b are the bytes; nil: there is none. That no byte which
// belongs to nothing is set is asked by making the bytes anew.
func modelOf(b []byte) *model {
	if len(b) != api.PageSize {
		return nil
	}
	le := binary.LittleEndian
	n := int(le.Uint16(b))
	m := &model{begin: int(le.Uint16(b[2:]))}
	if headerBytes+slotBytes*n > m.begin || m.begin > api.PageSize {
		return nil
	}
	var all []*held
	for i := range n {
		slot := b[headerBytes+slotBytes*i:]
		at, size := int(le.Uint16(slot)), int(le.Uint16(slot[2:]))
		if at == 0 && size == 0 {
			m.slots = append(m.slots, nil)
			continue
		}
		if at < m.begin || size < versionHead || at+size > api.PageSize {
			return nil
		}
		v := b[at : at+size]
		t := api.Tuple{Row: le.Uint64(v), Xmin: le.Uint64(v[8:]), Xmax: le.Uint64(v[16:]), Data: bytes.Clone(v[versionHead:])}
		t.Next = api.TID{Page: int(le.Uint32(v[24:])) - 1, Slot: int(le.Uint16(v[28:])) - 1}
		if !rightTuple(t) {
			return nil
		}
		m.slots = append(m.slots, &held{t, at})
		all = append(all, m.slots[i])
	}
	slices.SortFunc(all, func(x, y *held) int { return x.at - y.at })
	for i := 1; i < len(all); i++ {
		if all[i-1].at+all[i-1].size() > all[i].at {
			return nil
		}
	}
	if n > 0 && m.slots[n-1] == nil || !bytes.Equal(m.bytes(), b) {
		return nil
	}
	return m
}

func sameTuple(a, b api.Tuple) bool {
	return a.Row == b.Row && a.Xmin == b.Xmin && a.Xmax == b.Xmax && a.Next == b.Next && bytes.Equal(a.Data, b.Data)
}

// sameAs checks that all that the page tells is what the model does.
func sameAs(t *testing.T, p *page.Page, m *model) {
	t.Helper()
	if got, want := p.Bytes(), m.bytes(); !bytes.Equal(got, want) {
		t.Fatalf("Bytes:\n% x\nwant\n% x", got, want)
	}
	used := 0
	for _, h := range m.slots {
		if h != nil {
			used++
		}
	}
	if p.Slots() != len(m.slots) || p.Used() != used || p.Room() != m.room() {
		t.Fatalf("Slots %d, Used %d, Room %d; want %d, %d, %d", p.Slots(), p.Used(), p.Room(), len(m.slots), used, m.room())
	}
	for slot := -2; slot < len(m.slots)+3; slot++ {
		got, ok := p.Get(slot)
		want := api.Tuple{}
		if m.there(slot) {
			want = m.slots[slot].t
		}
		if ok != m.there(slot) || !sameTuple(got, want) {
			t.Fatalf("Get(%d) = %+v, %t; want %+v", slot, got, ok, want)
		}
	}
}

// dice are numbers by a rule: the same ones in each run.
type dice uint64

// roll is a number of 0 .. n - 1.
func (d *dice) roll(n int) int {
	*d = *d*6364136223846793005 + 1442695040888963407
	return int(uint64(*d) >> 33 % uint64(n))
}

func (d *dice) of(l ...int) int { return l[d.roll(len(l))] }

func (d *dice) xid() uint64 {
	return uint64(d.of(0, 1, d.roll(1<<20), 1<<32+d.roll(9), api.MaxXid-1, api.MaxXid, api.MaxXid, d.of(api.MaxXid, api.MaxXid+1)))
}

func (d *dice) next() api.TID {
	if d.roll(3) == 0 {
		return none()
	}
	return api.TID{Page: d.of(0, 0, d.roll(65536), 65535, d.of(65535, 65536, -1)), Slot: d.of(0, 0, d.roll(65535), 65534, d.of(65534, 65535, -1))}
}

func (d *dice) tuple(most int) api.Tuple {
	data := make([]byte, d.roll(most+1))
	for i := range data {
		data[i] = byte(d.roll(256))
	}
	return api.Tuple{Row: d.xid(), Xmin: d.xid(), Xmax: d.xid(), Next: d.next(), Data: data}
}

// step tells the page and the model one thing, and holds what they answer against each other.
func step(t *testing.T, d *dice, p *page.Page, m *model, most int) {
	t.Helper()
	slot := d.roll(len(m.slots)+3) - 1
	switch d.roll(5) {
	case 0, 1:
		x := d.tuple(most)
		got, e := p.Insert(x)
		want, wantE := m.insert(x)
		if got != want || e != wantE {
			t.Fatalf("Insert(%+v) = %d, %d; want %d, %d", x, got, e, want, wantE)
		}
	case 2:
		xmax, next := d.xid(), d.next()
		if e, want := p.Stamp(slot, xmax, next), m.stamp(slot, xmax, next); e != want {
			t.Fatalf("Stamp(%d, %d, %v) = %d; want %d", slot, xmax, next, e, want)
		}
	default:
		if len(m.slots) > 2 && d.roll(3) == 0 {
			return // so that pages get full
		}
		if e, want := p.Free(slot), m.free(slot); e != want {
			t.Fatalf("Free(%d) = %d; want %d", slot, e, want)
		}
	}
}
