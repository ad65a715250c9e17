package tree

import (
	"bytes"
	"cmp"
	"slices"

	"lapidary/api"
)

// fewest is how many parts a node has that isn't the root. It bounds the height, and
// two nodes of which one has fewer can be joined, or have enough for both.
const fewest = api.Fan / 2

// node is a leaf, whose parts are entries, or has others below it, which are its parts.
// The parts stand in order; all leaves lie equally deep.
type node struct {
	entries []Entry
	below   []*node
}

// order is -1, 0 or 1, as a stands ahead of b, is b, stands behind it.
func order(a, b Entry) int {
	return cmp.Or(
		bytes.Compare(a.Key, b.Key),
		cmp.Compare(a.At.Page, b.At.Page),
		cmp.Compare(a.At.Slot, b.At.Slot),
	)
}

func (n *node) leaf() bool {
	return len(n.below) == 0
}

// parts is how many parts the node has.
func (n *node) parts() int {
	return len(n.entries) + len(n.below)
}

// first is the first entry of a part: there is one, since no node below another is empty.
func (n *node) first(part int) Entry {
	for !n.leaf() {
		n, part = n.below[part], 0
	}
	return n.entries[part]
}

// upTo is how many parts begin with e, or ahead of it.
func (n *node) upTo(e Entry) int {
	for part := range n.parts() {
		if order(n.first(part), e) > 0 {
			return part
		}
	}
	return n.parts()
}

// insert puts e where it belongs, and splits what has too much then: the node that
// was split off n, which stands behind it (nil: none); false: e is there already.
func (n *node) insert(e Entry) (*node, bool) {
	at := n.upTo(e)
	if n.leaf() {
		if at > 0 && order(n.entries[at-1], e) == 0 {
			return nil, false
		}
		n.entries = slices.Insert(n.entries, at, e)
		return n.split(), true
	}
	// What stands ahead of all entries goes to the first part.
	at = max(at-1, 0)
	right, ok := n.below[at].insert(e)
	if right != nil {
		n.below = slices.Insert(n.below, at+1, right)
	}
	return n.split(), ok
}

// split gives the later half of the parts to a new node, if there are too many.
func (n *node) split() *node {
	if n.parts() <= api.Fan {
		return nil
	}
	right := &node{}
	n.entries, right.entries = halves(n.entries)
	n.below, right.below = halves(n.below)
	return right
}

// halves are copies, so that neither keeps what is the other's.
func halves[T any](l []T) ([]T, []T) {
	half := len(l) / 2
	return slices.Clone(l[:half]), slices.Clone(l[half:])
}

// remove takes e out, and mends what has too little then, but n itself; false: e isn't
// there.
func (n *node) remove(e Entry) bool {
	at := n.upTo(e) - 1
	if at < 0 {
		return false
	}
	if n.leaf() {
		if order(n.entries[at], e) != 0 {
			return false
		}
		n.entries = slices.Delete(n.entries, at, at+1)
		return true
	}
	ok := n.below[at].remove(e)
	n.mend(at)
	return ok
}

// mend joins a part that has too little with the one beside it; if that is too much
// for one node, each gets half of it.
func (n *node) mend(part int) {
	if n.below[part].parts() >= fewest {
		return
	}
	part = max(part-1, 0)
	left, right := n.below[part], n.below[part+1]
	left.entries = append(left.entries, right.entries...)
	left.below = append(left.below, right.below...)
	if rest := left.split(); rest != nil {
		n.below[part+1] = rest
		return
	}
	n.below = slices.Delete(n.below, part+1, part+2)
}

// scan sets copies of the entries with keys from a key on, up to another one, behind l.
func (n *node) scan(l []Entry, from, to []byte) []Entry {
	for part := range n.parts() {
		e := n.first(part)
		switch {
		case len(to) > 0 && bytes.Compare(e.Key, to) >= 0:
			return l
		case !n.leaf() && !n.endsAhead(part, from):
			l = n.below[part].scan(l, from, to)
		case n.leaf() && bytes.Compare(e.Key, from) >= 0:
			l = append(l, Entry{Key: bytes.Clone(e.Key), At: e.At})
		}
	}
	return l
}

// endsAhead tells whether all keys below a part are less than from, as far as the
// first one behind it can tell.
func (n *node) endsAhead(part int, from []byte) bool {
	behind := part + 1
	return behind < n.parts() && bytes.Compare(n.first(behind).Key, from) < 0
}
