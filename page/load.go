package page

import "lapidary/api"

// Load is the page of which b are the bytes.
func Load(b []byte) (*Page, api.Errno) {
	if len(b) != api.PageSize {
		return nil, api.ErrForm
	}
	p := &Page{bytes: [api.PageSize]byte(b)}
	if !p.rightSlots() || !p.rightData() {
		return nil, api.ErrForm
	}
	return p, api.OK
}

// rightSlots tells whether the slots end ahead of the data, and the last one is in use.
func (p *Page) rightSlots() bool {
	slots := p.Slots()
	if slotsAt+slots*slotBytes > p.begin() || p.begin() > api.PageSize {
		return false
	}
	return slots == 0 || !p.isFree(slots-1)
}

func (p *Page) isFree(slot int) bool {
	begin, size := p.span(slot)
	return begin == 0 && size == 0
}

// rightData tells whether all versions are right and each byte is of at most one of
// them, those of none 0.
func (p *Page) rightData() bool {
	var taken [api.PageSize]bool
	for slot := range p.Slots() {
		if p.isFree(slot) {
			continue
		}
		begin, size := p.span(slot)
		if begin < p.begin() || begin+size > api.PageSize || size < headBytes {
			return false
		}
		for at := begin; at < begin+size; at++ {
			if taken[at] {
				return false
			}
			taken[at] = true
		}
		if !right(tuple(p.at(slot))) {
			return false
		}
	}
	for at := slotsAt + p.Slots()*slotBytes; at < api.PageSize; at++ {
		if !taken[at] && p.bytes[at] != 0 {
			return false
		}
	}
	return true
}
