package tree

import (
	"slices"

	"chert/api"
	"chert/key"
	"chert/node"
	"chert/path"
)

// Build: the tree of pairs.
func Build(pairs []api.Pair) (*Tree, api.Errno) {
	// In this order, pairs are a tree's if there is nothing to put right; of two with the same key one is.
	t, wrong := Repair(pairs)
	if wrong > 0 || !slices.IsSortedFunc(pairs, byKey) {
		return nil, api.ErrForm
	}
	return t, api.OK
}

// Repair: a tree of what can be used of pairs, and how many things were put right.
func Repair(pairs []api.Pair) (*Tree, int) {
	found := gather(pairs)
	t := New()
	// No recursion: how deep the directories are is not bounded.
	for visit := []int{root}; len(visit) > 0; visit = visit[1:] {
		for _, name := range found.namesIn(visit[0]) {
			p := place{visit[0], name}
			number := found.names[p.directory][name]
			inode, exists := found.inodes[number]
			if !exists || !t.accepts(p, number) {
				continue
			}
			t.enter(p, number)
			t.reach(number, inode)
			if inode.Dir {
				visit = append(visit, number)
			}
		}
	}
	return t, len(pairs) - t.balance(found)
}

// gather: what pairs tell, which need not be a tree.
func gather(pairs []api.Pair) *Tree {
	t := &Tree{inodes: map[int]node.Inode{}, names: map[int]map[string]int{}}
	for _, pair := range pairs {
		// A pair takes the place of those before it even if its value is of no use; what is no key has no kind.
		switch k, _ := key.Decode(pair.Key); k.Kind {
		case key.Inode:
			delete(t.inodes, k.Number)
			if inode, ok := node.GetInode(pair.Value); ok {
				t.put(k.Number, inode)
			}
		case key.Entry:
			p := place{k.Number, k.Name}
			t.leave(p)
			if number, ok := node.GetEntry(pair.Value); ok {
				t.enter(p, number)
			}
		}
	}
	return t
}

// accepts: can this number have a name at a place, with those that it has?
func (t *Tree) accepts(p place, number int) bool {
	if _, err := path.Join(p.name); err != api.OK {
		return false
	}
	inode, reached := t.inodes[number]
	return !reached || !inode.Dir && inode.Links < api.MaxLinks
}

// reach: a number has one name more; with the first one it begins to exist, as what was found of it.
func (t *Tree) reach(number int, found node.Inode) {
	inode, reached := t.inodes[number]
	if !reached {
		inode = node.Inode{Dir: found.Dir, Size: min(found.Size, api.MaxFile)}
		if found.Dir {
			inode.Size = 0
		}
	}
	inode.Links++
	t.put(number, inode)
	t.last = max(t.last, number)
}

// balance: how many pairs of what was found are in the tree as they were, less those that the tree alone has.
func (t *Tree) balance(found *Tree) int {
	n := 0
	for number, inode := range t.inodes {
		n += len(t.names[number])
		old, exists := found.inodes[number]
		switch {
		case !exists:
			n--
		case old == inode:
			n++
		}
	}
	return n
}
