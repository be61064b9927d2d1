package rope

import "slices"

// width is the greatest number of elements of a leaf.
const width = 16

// node is a leaf, or has two nodes whose depths differ by at most 1: so a depth takes as many leaves as Fibonacci's numbers
// tell at least. No node is changed once it is made, and so ropes share them. A nil node has no elements.
type node[T any] struct {
	size, depth int
	elements    *[width]T // of a leaf: the first size ones are used
	left, right *node[T]  // of a node that is no leaf
}

func (n *node[T]) isLeaf() bool { return n.elements != nil }

func (n *node[T]) len() int {
	if n == nil {
		return 0
	}
	return n.size
}

// list returns the elements of a leaf: its own memory.
func (n *node[T]) list() []T { return n.elements[:n.size] }

// leaf returns a leaf with at most width elements, nil without any.
func leaf[T any](l []T) *node[T] {
	if len(l) == 0 {
		return nil
	}
	n := &node[T]{size: len(l), depth: 1, elements: new([width]T)}
	copy(n.elements[:], l)
	return n
}

// fork returns the node above two nodes.
func fork[T any](left, right *node[T]) *node[T] {
	return &node[T]{size: left.size + right.size, depth: max(left.depth, right.depth) + 1, left: left, right: right}
}

// build returns the tree of a list; all of its leaves but the last one are full.
func build[T any](l []T) *node[T] {
	if len(l) <= width {
		return leaf(l)
	}
	leaves := (len(l) + width - 1) / width
	half := leaves / 2 * width
	return fork(build(l[:half]), build(l[half:]))
}

// join returns the tree of the elements of two trees. It is as deep as the deeper one of them, or deeper by 1.
func join[T any](a, b *node[T]) *node[T] {
	switch {
	case a == nil:
		return b
	case b == nil:
		return a
	case a.isLeaf() && b.isLeaf() && a.size+b.size <= width:
		return leaf(append(slices.Clone(a.list()), b.list()...))
	case a.sinks(b):
		return balance(join(a, b.left), b.right)
	case b.sinks(a):
		return balance(a.left, join(a.right, b))
	}
	return fork(a, b)
}

// sinks reports whether a node is joined to a node within a deeper one. A leaf goes down to the leaf beside it,
// which may have room for its elements.
func (n *node[T]) sinks(deeper *node[T]) bool {
	return deeper.depth > n.depth+1 || n.isLeaf() && !deeper.isLeaf()
}

// balance returns the tree of two trees whose depths differ by at most 2.
func balance[T any](a, b *node[T]) *node[T] {
	switch {
	case a.depth > b.depth+1:
		if a.left.depth >= a.right.depth {
			return fork(a.left, fork(a.right, b))
		}
		return fork(fork(a.left, a.right.left), fork(a.right.right, b))
	case b.depth > a.depth+1:
		if b.right.depth >= b.left.depth {
			return fork(fork(a, b.left), b.right)
		}
		return fork(fork(a, b.left.left), fork(b.left.right, b.right))
	}
	return fork(a, b)
}

// split returns the trees of the first i elements and of the others.
func (n *node[T]) split(i int) (a, b *node[T]) {
	switch {
	case i <= 0:
		return nil, n
	case i >= n.len():
		return n, nil
	case n.isLeaf():
		l := n.list()
		return leaf(l[:i]), leaf(l[i:])
	case i < n.left.size:
		a, b = n.left.split(i)
		return a, join(b, n.right)
	}
	a, b = n.right.split(i - n.left.size)
	return join(n.left, a), b
}

// from returns the elements of the leaf that has an index, from this on: the leaf's own memory.
func (n *node[T]) from(i int) []T {
	for !n.isLeaf() {
		if i < n.left.size {
			n = n.left
		} else {
			i -= n.left.size
			n = n.right
		}
	}
	return n.list()[i:]
}

// forth yields the elements, the first of which has an index; it reports whether to go on.
func (n *node[T]) forth(first int, yield func(int, T) bool) bool {
	if !n.isLeaf() {
		return n.left.forth(first, yield) && n.right.forth(first+n.left.size, yield)
	}
	for i, x := range n.list() {
		if !yield(first+i, x) {
			return false
		}
	}
	return true
}

// back is forth from the last element to the first one.
func (n *node[T]) back(first int, yield func(int, T) bool) bool {
	if !n.isLeaf() {
		return n.right.back(first+n.left.size, yield) && n.left.back(first, yield)
	}
	for i, x := range slices.Backward(n.list()) {
		if !yield(first+i, x) {
			return false
		}
	}
	return true
}

// image returns the tree of the same form with the images of the elements; f is asked from the left to the right.
func image[T, U any](n *node[T], f func(T) U) *node[U] {
	if n == nil {
		return nil
	}
	if n.isLeaf() {
		l := make([]U, n.size)
		for i, x := range n.list() {
			l[i] = f(x)
		}
		return leaf(l)
	}
	left := image(n.left, f)
	return fork(left, image(n.right, f))
}
