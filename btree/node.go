package btree

import (
	"iter"
	"slices"
	"strings"

	"chert/api"
)

const (
	most  = api.MaxOrder // entries of a node
	least = most / 2     // entries of a node that is not the root
)

// node is a node's entries in the order of their keys. None is ever changed: with and without make new ones, so nodes may share memory.
type node []entry

// entry is a key with its value in a leaf, or the node below with its first key in another node.
type entry struct {
	key, value string
	below      node
}

func (n node) isLeaf() bool { return len(n) == 0 || n[0].below == nil }

// place: which entry has the greatest key that is not greater than key, -1 if none has; and whether it is key itself.
func (n node) place(key string) (int, bool) {
	i, found := slices.BinarySearchFunc(n, key, func(e entry, key string) int { return strings.Compare(e.key, key) })
	if !found {
		i--
	}
	return i, found
}

// child: which entry leads to where key is or would be.
func (n node) child(key string) int {
	i, _ := n.place(key)
	return max(i, 0)
}

// get: a key's value in the leaves below a node.
func (n node) get(key string) (string, bool) {
descend:
	i, found := n.place(key)
	if i < 0 {
		return "", false
	}
	if below := n[i].below; below != nil {
		n = below
		goto descend
	}
	if !found {
		return "", false
	}
	return n[i].value, true
}

// with: a node when a key has been set below it. It may have one entry too many.
func (n node) with(e entry) node {
	if !n.isLeaf() {
		i := n.child(e.key)
		return n.changed(i, n[i].below.with(e))
	}
	i, found := n.place(e.key)
	rest := n[i+1:]
	if found {
		i--
	}
	return slices.Concat(n[:i+1], node{e}, rest)
}

// without: a node when a key that is below it has been deleted. It may have one entry too few.
func (n node) without(key string) node {
	i := n.child(key)
	if n.isLeaf() {
		return slices.Concat(n[:i], n[i+1:])
	}
	return n.changed(i, n[i].below.without(key))
}

// changed: a node when the one below its i-th entry has become another, which may have one entry too many or too few.
func (n node) changed(i int, below node) node {
	first, end := i, i+1
	if len(below) < least && i > 0 {
		first--
		below = slices.Concat(n[first].below, below)
	} else if len(below) < least {
		below = slices.Concat(below, n[end].below)
		end++
	}
	return slices.Concat(n[:first], below.divided(), n[end:])
}

// divided: what the node above has for entries that lie in one node if they fit there, or else in two.
func (n node) divided() node {
	if len(n) <= most {
		return node{n.above()}
	}
	half := len(n) / 2
	return node{n[:half].above(), n[half:].above()}
}

// above: what the node above has for this one.
func (n node) above() entry { return entry{key: n[0].key, below: n} }

// asRoot: the root when it has become n, which may have one entry too many, or only one that leads on.
func (n node) asRoot() node {
	if len(n) > most {
		return n.divided()
	}
	if len(n) == 1 && !n.isLeaf() {
		return n[0].below
	}
	return n
}

// leaves: the leaves below a node in order, from the one on where key is or would be.
func (n node) leaves(key string) iter.Seq[node] {
	return func(yield func(node) bool) {
		if n.isLeaf() {
			if len(n) > 0 {
				yield(n)
			}
			return
		}
		for _, e := range n[n.child(key):] {
			for leaf := range e.below.leaves(key) {
				if !yield(leaf) {
					return
				}
			}
		}
	}
}
