package index_test

import (
	"math"
	"math/rand"
	"slices"
	"strconv"
	"strings"
	"testing"

	"chert/api"
	"chert/btree"
	"chert/index"
)

// numbered: so many pairs with keys and values of these lengths.
func numbered(many, key, value int) []api.Pair {
	pairs := make([]api.Pair, many)
	for i := range pairs {
		text := strconv.Itoa(i)
		pairs[i] = api.Pair{Key: strings.Repeat("0", key-len(text)) + text, Value: strings.Repeat("v", value)}
	}
	return pairs
}

func TestExample(t *testing.T) {
	checkStore(t, treeOf(api.Pair{Key: "a", Value: "1"}), 200, []string{"\x00\x01\x01a\x011"}, api.OK)
}

func TestStoreOfSizes(t *testing.T) {
	tree := treeOf(api.Pair{Key: "a", Value: "1"})
	long := treeOf(api.Pair{Key: strings.Repeat("k", 65)})
	for _, size := range []int{math.MinInt, -200, -1, 0, 1, 199, api.MaxRaw + 1, 4096, math.MaxInt} {
		checkStore(t, tree, size, nil, api.ErrArg)
		checkStore(t, long, size, nil, api.ErrArg)
		checkStore(t, &btree.Tree{}, size, nil, api.ErrArg)
		checkStore(t, nil, size, nil, api.ErrArg)
	}
	for _, size := range []int{200, 201, api.MaxRaw - 1, api.MaxRaw} {
		checkStore(t, tree, size, []string{"\x00\x01\x01a\x011"}, api.OK)
		checkStore(t, long, size, nil, api.ErrLong)
	}
}

func TestStoreOfNothing(t *testing.T) {
	checkStore(t, nil, 200, nil, api.OK)
	checkStore(t, &btree.Tree{}, 200, nil, api.OK)
	tree := treeOf(numbered(100, 3, 3)...)
	tree.Drop("", "")
	checkStore(t, tree, 200, nil, api.OK)
	checkStore(t, treeOf(api.Pair{}), 200, []string{"\x00\x01\x00\x00"}, api.OK) // an empty key is one
}

func TestStoreOfLongTexts(t *testing.T) {
	most, more := strings.Repeat("x", 64), strings.Repeat("x", 65)
	checkStore(t, treeOf(api.Pair{Key: most, Value: most}), 200, []string{"\x00\x01@" + most + "@" + most}, api.OK)
	for _, wrong := range []api.Pair{{Key: more}, {Key: "m", Value: more}, {Key: more, Value: more}, {Key: "m", Value: strings.Repeat("x", 300)}} {
		checkStore(t, treeOf(wrong), 2048, nil, api.ErrLong)
		for _, pairs := range [][]api.Pair{{{Key: "a"}}, {{Key: "z"}}, numbered(500, 64, 64)} {
			checkStore(t, treeOf(append(pairs, wrong)...), 200, nil, api.ErrLong)
		}
	}
}

// TestStoreFillsPages: an entry that just fits is taken, one byte more is not.
func TestStoreFillsPages(t *testing.T) {
	pairs := numbered(4, 9, 20) // 31 bytes each
	last := "999999999"
	for value, want := range map[int]int{63: 1, 64: 3} { // 2 + 4*31 + 11 + 63 is 200
		all := append(slices.Clone(pairs), api.Pair{Key: last, Value: strings.Repeat("w", value)})
		pages, err := index.Store(treeOf(all...), 200)
		if err != api.OK || len(pages) != want || want == 1 && len(pages[0]) != 200 {
			t.Errorf("with %d bytes there are the pages %q, %d", value, pages, err)
		}
	}
	// On the level above an entry has 4 bytes more than its key; each leaf has room for one entry only.
	for key, want := range map[int]int{62: 4 + 2 + 1, 36: 4 + 1, 46: 4 + 2 + 1, 45: 4 + 1} { // 2 + 4*49 is 198
		pairs = numbered(4, key, 64)
		checkStore(t, treeOf(pairs...), 200, slowStore(pairs, 200), api.OK)
		if pages, _ := index.Store(treeOf(pairs...), 200); len(pages) != want {
			t.Errorf("there are %d pages, not %d", len(pages), want)
		}
	}
}

func TestStoreOfManyEntries(t *testing.T) {
	for _, c := range []struct{ pairs, pages int }{{254, 1}, {255, 1}, {256, 3}, {510, 3}, {511, 4}} {
		pairs := numbered(c.pairs, 3, 0)
		pages, err := index.Store(treeOf(pairs...), 2048)
		if err != api.OK || len(pages) != c.pages || int(pages[0][1]) != min(c.pairs, 255) {
			t.Errorf("%d entries have %d pages, %d, not %d", c.pairs, len(pages), err, c.pages)
		}
		checkStore(t, treeOf(pairs...), 2048, slowStore(pairs, 2048), api.OK)
	}
	pairs := numbered(255*255+1, 5, 0) // the level above has 256 entries
	checkStore(t, treeOf(pairs...), 2048, slowStore(pairs, 2048), api.OK)
}

func TestStoreOfAnyTree(t *testing.T) {
	random := rand.New(rand.NewSource(1))
	for _, size := range []int{200, 201, 249, 256, 500, 1000, 2047, 2048} {
		for range 40 {
			pairs := anyPairs(random, random.Intn(600), []int{2, 4, 20, 64}[random.Intn(4)])
			tree := treeOf(pairs...)
			checkStore(t, tree, size, slowStore(pairs, size), api.OK)
			if !slices.Equal(pairsOf(tree), pairs) {
				t.Fatal("the tree was changed")
			}
			checkStore(t, tree, size, slowStore(pairs, size), api.OK)
		}
	}
}

// TestStoreOfMostPages: of these entries a leaf takes one, and a page above takes three.
func TestStoreOfMostPages(t *testing.T) {
	pairs := numbered(43689, 46, 64)
	last := pairs[43688]
	tree := treeOf(pairs...)
	checkStore(t, tree, 200, nil, api.ErrLong)
	tree.Delete(last.Key)
	pages, err := index.Store(tree, 200)
	if err != api.OK || len(pages) != 65536 {
		t.Fatalf("there are %d pages, %d", len(pages), err)
	}
	checkLoad(t, from(pages...), len(pages), pairs[:43688], api.OK)
	for i := 0; i < 43688; i += 7 {
		checkFind(t, from(pages...), len(pages), pairs[i].Key, pairs[i].Value, api.OK)
	}
	checkFind(t, from(pages...), len(pages), last.Key, "", api.ErrNone)
}
