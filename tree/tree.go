// Package tree: in which order lengths are asked: the middle one first, then that of the shorter or of the longer ones.
package tree

// Tree: the tree over the places lo to hi - 1.
type Tree struct {
	lo, hi int
}

// Over tells the whole tree over the places of count lengths.
func Over(count int) Tree {
	return Tree{lo: 0, hi: count}
}

// IsEmpty tells whether the tree has no place. One that has places has its node among them.
func (t Tree) IsEmpty() bool {
	return t.lo >= t.hi
}

// Node tells the place of the tree's node. The tree is not empty.
func (t Tree) Node() int {
	return (t.lo + t.hi) / 2
}

// Shorter tells the tree over the places ahead of the node.
func (t Tree) Shorter() Tree {
	return Tree{lo: t.lo, hi: t.Node()}
}

// Longer tells the tree over the places behind the node.
func (t Tree) Longer() Tree {
	return Tree{lo: t.Node() + 1, hi: t.hi}
}

// IsOnWay tells whether m is on the way of n. The lengths are in rising order, each once, and n is one of them.
func IsOnWay(lengths []int, m, n int) bool {
	t := Over(len(lengths))
	for !t.IsEmpty() {
		node := lengths[t.Node()]
		if node == m {
			return true
		}
		// The way ends at n: what lies deeper in the tree is not on it.
		if node == n {
			return false
		}
		if node < n {
			t = t.Longer()
		} else {
			t = t.Shorter()
		}
	}
	return false
}
