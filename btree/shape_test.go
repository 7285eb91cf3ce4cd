package btree_test

import (
	"math/rand"
	"slices"
	"testing"

	"chert/api"
	"chert/btree"
)

// bound: how high a tree of n keys is at most, if none was deleted: 1 plus the number of times that n can be divided by 4 until it is less than 1.
func bound(n int) int {
	height := 1
	for x := float64(n); x >= 1; x /= 4 {
		height++
	}
	return height
}

// checkShape compares the leaves with the keys that there should be, in order; fewest is how many each leaf has at least if there are several.
func checkShape(t *testing.T, tree *btree.Tree, keys []string, fewest int) {
	t.Helper()
	leaves := tree.Leaves()
	if got := slices.Concat(leaves...); !slices.Equal(got, keys) {
		t.Fatalf("the leaves have %.300v, not %.300v", got, keys)
	}
	if len(leaves) == 1 {
		fewest = 1
	}
	for _, leaf := range leaves {
		if len(leaf) < fewest || len(leaf) > api.MaxOrder {
			t.Fatalf("of %d leaves one has %d keys", len(leaves), len(leaf))
		}
	}
	n, height := tree.Len()
	if n != len(keys) || (height == 0) != (n == 0) {
		t.Fatalf("Len is %d, %d with %d keys", n, height, len(keys))
	}
	room := 1 // of leaves, if no node has more than MaxOrder below it
	for range height - 1 {
		room *= api.MaxOrder
	}
	if len(leaves) > room {
		t.Fatalf("a tree of height %d has %d leaves", height, len(leaves))
	}
}

func TestBound(t *testing.T) {
	for n, want := range map[int]int{0: 1, 1: 2, 3: 2, 4: 3, 15: 3, 16: 4, 63: 4, 64: 5} {
		if got := bound(n); got != want {
			t.Errorf("the bound of %d is %d, not %d", n, got, want)
		}
	}
}

// orders: some in which n things are taken, for an even n.
func orders(n int) [][]int {
	up := make([]int, n)
	for i := range up {
		up[i] = i
	}
	down := slices.Clone(up)
	slices.Reverse(down)
	var outside []int
	for i := range n / 2 {
		outside = append(outside, up[i], down[i])
	}
	random := rand.New(rand.NewSource(2))
	return [][]int{up, down, outside, random.Perm(n), random.Perm(n)}
}

func TestShapeWithoutDeletions(t *testing.T) {
	keys := numbered(3000)
	for _, order := range orders(len(keys)) {
		tree := &btree.Tree{}
		var put []string
		for _, i := range order {
			tree.Set(keys[i], "")
			tree.Set(keys[i], "again")
			at, _ := slices.BinarySearch(put, keys[i])
			put = slices.Insert(put, at, keys[i])
			if n, height := tree.Len(); height > bound(len(put)) || n != len(put) {
				t.Fatalf("Len is %d, %d after %d keys", n, height, len(put))
			}
			if len(put) < 200 || len(put)%97 == 0 {
				checkShape(t, tree, put, api.MaxOrder/2)
			}
		}
	}
}

func TestShapeOfMany(t *testing.T) {
	keys := numbered(200000)
	tree := treeOf(keys...)
	checkShape(t, tree, keys, api.MaxOrder/2)
	if _, height := tree.Len(); height > bound(len(keys)) {
		t.Errorf("the height is %d, more than %d", height, bound(len(keys)))
	}
}

// TestShapeWithDeletions: none makes the tree higher, and the last leaves it empty.
func TestShapeWithDeletions(t *testing.T) {
	keys := numbered(1000)
	for _, order := range orders(len(keys)) {
		tree := treeOf(keys...)
		left := slices.Clone(keys)
		for step, i := range order {
			at, _ := slices.BinarySearch(left, keys[i])
			left = slices.Delete(left, at, at+1)
			_, before := tree.Len()
			checkDelete(t, tree, keys[i], "of "+keys[i], true)
			if _, after := tree.Len(); after > before {
				t.Fatalf("the height was %d and is %d after a deletion", before, after)
			}
			if len(left) < 200 || step%97 == 0 {
				checkShape(t, tree, left, 1)
			}
		}
		checkLen(t, tree, 0, 0)
	}
}

func TestShapeOfFew(t *testing.T) {
	tree := &btree.Tree{}
	checkShape(t, tree, nil, 1)
	if leaves := tree.Leaves(); len(leaves) != 0 {
		t.Errorf("an empty tree has the leaves %v", leaves)
	}
	tree.Set("", "")
	checkShape(t, tree, []string{""}, 1)
	checkLen(t, tree, 1, 1)
}

// TestLeavesAreNew changes what Leaves told.
func TestLeavesAreNew(t *testing.T) {
	keys := numbered(30)
	tree := treeOf(keys...)
	leaves := tree.Leaves()
	for i, leaf := range leaves {
		next := slices.Clone(leaves[(i+1)%len(leaves)])
		leaf = append(leaf, "x", "x", "x", "x", "x", "x", "x", "x")
		for k := range leaf {
			leaf[k] = "x"
		}
		if !slices.Equal(next, leaves[(i+1)%len(leaves)]) {
			t.Fatal("two leaves share memory")
		}
	}
	checkShape(t, tree, keys, api.MaxOrder/2)
}
