package memory

import "iter"

// ordered is what can be held against others of its type.
type ordered[E any] interface {
	less(other E) bool
}

// tree is elements in order, no two of them alike: of any two, one is less than the other.
type tree[E ordered[E]] struct {
	root  *node[E]
	count int
}

// node is an element with those that are less, on its left, and those that are greater, on its right.
//
// Elements may come in order, too, so that the branches have to be kept short (this is an AA tree): a node without
// branches has level 1, the one on the left of a node is a level below it, the one on its right at most a level, and of
// two in a row on its right the second is below it. So a level is never deeper than two nodes.
type node[E ordered[E]] struct {
	element     E
	level       int
	left, right *node[E]
}

// put answers where the element of the tree is that is like this one, which is put there, and true, if there was none.
// It stays where it is, and may be changed there, but for what its place in the order hangs on.
func (t *tree[E]) put(e E) (*E, bool) {
	fresh := &node[E]{element: e, level: 1}
	root, found := t.root.with(fresh)
	t.root = root
	if found != fresh {
		return &found.element, false
	}
	t.count++
	return &found.element, true
}

// with answers the node that has to stand here when a fresh one is put below it, and the one that is like the fresh one.
func (n *node[E]) with(fresh *node[E]) (*node[E], *node[E]) {
	if n == nil {
		return fresh, fresh
	}
	found := n
	switch {
	case fresh.element.less(n.element):
		n.left, found = n.left.with(fresh)
	case n.element.less(fresh.element):
		n.right, found = n.right.with(fresh)
	}
	return n.leaned().lifted(), found
}

// leaned takes a left node up that is of the same level.
func (n *node[E]) leaned() *node[E] {
	up := n.left
	if up == nil || up.level < n.level {
		return n
	}
	n.left, up.right = up.right, n
	return up
}

// lifted takes the first of two right nodes up, a level higher, if both are of the same level.
func (n *node[E]) lifted() *node[E] {
	up := n.right
	if up == nil || up.right == nil || up.right.level < n.level {
		return n
	}
	n.right, up.left = up.left, n
	up.level++
	return up
}

// first is the least element that is not less than this one.
func (t *tree[E]) first(least E) (found E, ok bool) {
	t.root.each(least, func(e E) bool {
		found, ok = e, true
		return false
	})
	return found, ok
}

// from are the elements that are not less than this one, in order.
func (t *tree[E]) from(least E) iter.Seq[E] {
	return func(yield func(E) bool) { t.root.each(least, yield) }
}

// each answers whether more is wanted.
func (n *node[E]) each(least E, yield func(E) bool) bool {
	if n == nil {
		return true
	}
	if n.element.less(least) {
		return n.right.each(least, yield)
	}
	return n.left.each(least, yield) && yield(n.element) && n.right.each(least, yield)
}
