package heap

import "lapidary/api"

// Pool is pages for all heaps: it counts those that are nobody's.
type Pool struct {
	left int
}

// NewPool is a pool of so many pages.
func NewPool(pages int) (*Pool, api.Errno) {
	if pages < 0 || pages > api.MaxPages {
		return nil, api.ErrArg
	}
	return &Pool{left: pages}, api.OK
}

// Left is how many pages are nobody's.
func (p *Pool) Left() int {
	if p == nil {
		return 0
	}
	return p.left
}

// take makes a page somebody's; false: none is left.
func (p *Pool) take() bool {
	if p.Left() == 0 {
		return false
	}
	p.left--
	return true
}

// give makes n pages nobody's again.
func (p *Pool) give(n int) {
	p.left += n
}
