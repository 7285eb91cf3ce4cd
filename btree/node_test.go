package btree

import (
	"math/rand"
	"strconv"
	"strings"
	"testing"
	"unsafe"
)

// checkNode goes down to the leaves: all lie equally deep, no node but the root has too few entries, and each is found by its first key.
func checkNode(t *testing.T, n node, height int, root bool) {
	t.Helper()
	if len(n) > most || len(n) < least && !root {
		t.Fatalf("a node has %d entries", len(n))
	}
	if n.isLeaf() {
		if height != 1 {
			t.Fatalf("a leaf is %d levels too high", height-1)
		}
		return
	}
	if len(n) < 2 {
		t.Fatal("a root has nothing but one node")
	}
	for _, e := range n {
		if e.key != e.below[0].key {
			t.Fatalf("the first key is %q, not %q", e.below[0].key, e.key)
		}
		checkNode(t, e.below, height-1, false)
	}
}

func TestLeavesLieEquallyDeep(t *testing.T) {
	random := rand.New(rand.NewSource(3))
	for _, many := range []int{1, 8, 9, 50, 1000} {
		var tree Tree
		for step := range 4000 {
			key := strconv.Itoa(random.Intn(many))
			if random.Intn(5) < 2+step/1000%2 { // now more, now fewer
				tree.Set(key, "")
			} else {
				tree.Delete(key)
			}
			if n, height := tree.Len(); n > 0 {
				checkNode(t, tree.root, height, true)
			}
		}
	}
}

func TestKeysAreNotKept(t *testing.T) {
	key := strings.Repeat("k", 40)
	var tree Tree
	tree.Set(key, "")
	if unsafe.StringData(tree.root[0].key) == unsafe.StringData(key) {
		t.Error("the tree keeps the memory of a key that was handed in")
	}
}
