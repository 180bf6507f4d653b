package shelf

import "moiety/api"

// entry is a key and its record.
type entry struct {
	key string
	rec api.Record
}

// node is an entry, with those below it on its left, those above it on its right; nil is none.
// No node is changed once it is made, so that shelves may have nodes in common.
// The heights of its two sides are apart by one at most, which keeps the way to each key short.
type node struct {
	*entry
	left, right *node
	high, size  int
}

func (n *node) height() int {
	if n == nil {
		return 0
	}
	return n.high
}

func (n *node) count() int {
	if n == nil {
		return 0
	}
	return n.size
}

// find: the node of a key, if it is there.
func (n *node) find(key string) *node {
	for n != nil && n.key != key {
		n = n.toward(key)
	}
	return n
}

// toward: the side of a key that isn't the node's own.
func (n *node) toward(key string) *node {
	if key < n.key {
		return n.left
	}
	return n.right
}

// nth: the node with so many below it.
func (n *node) nth(i int) *node {
	for n != nil && i != n.left.count() {
		if i < n.left.count() {
			n = n.left
		} else {
			i -= n.left.count() + 1
			n = n.right
		}
	}
	return n
}

// below: how many keys are below one.
func (n *node) below(key string) int {
	passed := 0
	for n != nil {
		if n.key < key {
			passed += n.left.count() + 1
			n = n.right
		} else {
			n = n.left
		}
	}
	return passed
}

// with: all that is there, and an entry, in place of that of its key.
func (n *node) with(e *entry) *node {
	switch {
	case n == nil:
		return join(e, nil, nil)
	case e.key < n.key:
		return settle(n.entry, n.left.with(e), n.right)
	case e.key > n.key:
		return settle(n.entry, n.left, n.right.with(e))
	}
	return join(e, n.left, n.right)
}

// without: all that is there, but for a key.
func (n *node) without(key string) *node {
	switch {
	case n == nil:
		return nil
	case key < n.key:
		return settle(n.entry, n.left.without(key), n.right)
	case key > n.key:
		return settle(n.entry, n.left, n.right.without(key))
	case n.left == nil:
		return n.right
	}
	last, rest := n.left.splitLast()
	return settle(last, rest, n.right)
}

// splitLast: the last entry, and all but it.
func (n *node) splitLast() (*entry, *node) {
	if n.right == nil {
		return n.entry, n.left
	}
	last, rest := n.right.splitLast()
	return last, settle(n.entry, n.left, rest)
}

// join: an entry between two sides.
func join(e *entry, left, right *node) *node {
	return &node{
		entry: e,
		left:  left,
		right: right,
		high:  max(left.height(), right.height()) + 1,
		size:  left.count() + right.count() + 1,
	}
}

// settle: join, for sides whose heights may be apart by two.
func settle(e *entry, left, right *node) *node {
	switch {
	case left.height() > right.height()+1:
		return leanRight(e, left, right)
	case right.height() > left.height()+1:
		return leanLeft(e, left, right)
	}
	return join(e, left, right)
}

// leanRight: join, for a left side that is higher by two.
func leanRight(e *entry, left, right *node) *node {
	if left.left.height() >= left.right.height() {
		return join(left.entry, left.left, join(e, left.right, right))
	}
	mid := left.right
	return join(mid.entry, join(left.entry, left.left, mid.left), join(e, mid.right, right))
}

// leanLeft: join, for a right side that is higher by two.
func leanLeft(e *entry, left, right *node) *node {
	if right.right.height() >= right.left.height() {
		return join(right.entry, join(e, left, right.left), right.right)
	}
	mid := right.left
	return join(mid.entry, join(e, left, mid.left), join(right.entry, mid.right, right.right))
}
