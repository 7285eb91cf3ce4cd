package space_test

import (
	"math"
	"math/rand"
	"slices"
	"sort"
	"strconv"
	"strings"
	"testing"

	"chert/api"
	"chert/btree"
	"chert/index"
	"chert/node"
	"chert/pack"
	"chert/space"
)

func checkNeed(t *testing.T, p space.Plan, keys, bytes []int, nodes, index int, ok bool) {
	t.Helper()
	gotNodes, gotIndex, got := p.Need(keys, bytes)
	if gotNodes != nodes || gotIndex != index || got != ok {
		t.Fatalf("Need of %d nodes in %v is %d, %d, %v, not %d, %d, %v", len(keys), p, gotNodes, gotIndex, got, nodes, index, ok)
	}
}

// inPages: the plan, with blocks of one page each, so that Need counts pages.
func inPages(p space.Plan) space.Plan {
	p.Room = 1
	return p
}

func TestNeed(t *testing.T) {
	p := planOf(t, example())
	checkNeed(t, p, nil, nil, 0, 0, true)
	checkNeed(t, p, []int{}, []int{}, 0, 0, true)
	checkNeed(t, p, many(1, 1), many(1, 1), 1, 1, true)
	checkNeed(t, p, many(1, 64), many(1, 249), 1, 1, true)
	checkNeed(t, p, many(11, 1), many(11, 249), 1, 1, true)
	checkNeed(t, p, many(12, 1), many(12, 249), 2, 1, true)
	checkNeed(t, p, many(12, 1), many(12, 125), 2, 1, true) // two of them are one byte too long for a page
	checkNeed(t, p, many(22, 1), many(22, 124), 1, 1, true)
	// A leaf has room for 16 entries of 15 bytes, and a page above for 49 entries of 5.
	checkNeed(t, inPages(p), many(16, 1), many(16, 1), 1, 1, true)
	checkNeed(t, inPages(p), many(17, 1), many(17, 1), 1, 3, true)
	checkNeed(t, inPages(p), many(16*49, 1), many(16*49, 1), 4, 50, true)
	checkNeed(t, inPages(p), many(16*49+1, 1), many(16*49+1, 1), 4, 53, true)
	checkNeed(t, p, many(10*16, 1), many(10*16, 1), 1, 1, true) // 10 leaves and the root
	checkNeed(t, p, many(10*16+1, 1), many(10*16+1, 1), 1, 2, true)
	// A leaf has room for 3 entries of 78 bytes, and so has a page above, of 68 bytes each.
	checkNeed(t, inPages(p), many(3, 64), many(3, 83), 1, 1, true)
	checkNeed(t, inPages(p), many(4, 64), many(4, 83), 2, 3, true)
	checkNeed(t, inPages(p), many(9, 64), many(9, 83), 3, 4, true)
	checkNeed(t, inPages(p), many(10, 64), many(10, 83), 4, 7, true)
}

// TestNeedGoesByTheOrder: which node is behind which one tells how many go into a page.
func TestNeedGoesByTheOrder(t *testing.T) {
	p := inPages(planOf(t, example()))
	checkNeed(t, p, many(4, 1), []int{100, 149, 100, 149}, 2, 1, true)
	checkNeed(t, p, many(4, 1), []int{149, 149, 100, 100}, 3, 1, true)
	// Four keys go to a leaf, whose first one is in the page above: there are four leaves, of which one page leads to all if it is short.
	checkNeed(t, p, slices.Repeat([]int{1, 64, 64, 62}, 4), many(16, 1), 1, 4+1, true)
	checkNeed(t, p, slices.Repeat([]int{64, 64, 62, 1}, 4), many(16, 1), 1, 4+2+1, true)
	// One byte more, and only three go to a leaf.
	checkNeed(t, p, slices.Repeat([]int{1, 64, 64, 63}, 4), many(16, 1), 1, 6+2+1, true)
}

func TestNeedOfWhatIsWrong(t *testing.T) {
	p := planOf(t, example())
	checkNeed(t, p, many(1, 1), nil, 0, 0, false)
	checkNeed(t, p, nil, many(1, 1), 0, 0, false)
	checkNeed(t, p, many(3, 1), many(2, 1), 0, 0, false)
	checkNeed(t, p, many(2, 1), many(3, 1), 0, 0, false)
	for at := range 3 {
		for _, wrong := range []int{math.MinInt, -1, 0, 65, 249, math.MaxInt} {
			keys := many(3, 5)
			keys[at] = wrong
			checkNeed(t, p, keys, many(3, 5), 0, 0, false)
		}
		for _, wrong := range []int{math.MinInt, -1, 0, 250, api.MaxRaw, math.MaxInt} {
			bytes := many(3, 5)
			bytes[at] = wrong
			checkNeed(t, p, many(3, 5), bytes, 0, 0, false)
		}
	}
	checkNeed(t, space.Plan{}, nil, nil, 0, 0, false)
	checkNeed(t, space.Plan{}, many(1, 1), many(1, 1), 0, 0, false)
	for _, size := range []int{math.MinInt, 0, 1, 199, api.MaxRaw + 1, math.MaxInt} { // no index has such pages
		checkNeed(t, space.Plan{Half: 5, Room: 5, Bytes: size}, many(1, 1), many(1, 1), 0, 0, false)
	}
}

func TestNeedLeavesTheListsAlone(t *testing.T) {
	keys := append(make([]int, 0, 80), many(40, 64)...)
	bytes := append(make([]int, 0, 80), many(40, 249)...)
	p := planOf(t, example())
	p.Need(keys, bytes)
	p.Fits(keys, bytes)
	if !slices.Equal(keys[:80], append(many(40, 64), many(40, 0)...)) || !slices.Equal(bytes[:80], append(many(40, 249), many(40, 0)...)) {
		t.Error("the lists were changed")
	}
}

// pairsOf: so many pairs with keys of any lengths, in their order.
func pairsOf(random *rand.Rand, many, longest int) []api.Pair {
	keys := map[string]string{}
	for range many {
		key, value := make([]byte, 1+random.Intn(longest)), make([]byte, random.Intn(150))
		random.Read(key)
		random.Read(value)
		keys[string(key)] = string(value)
	}
	var pairs []api.Pair
	for key, value := range keys {
		pairs = append(pairs, api.Pair{Key: key, Value: value})
	}
	slices.SortFunc(pairs, func(a, b api.Pair) int { return strings.Compare(a.Key, b.Key) })
	return pairs
}

// lengths: of the keys of pairs, and of their nodes.
func lengths(pairs []api.Pair) ([]int, []int) {
	var keys, bytes []int
	for _, p := range pairs {
		text, _ := node.Encode(node.Node{Key: p.Key, Value: p.Value})
		keys, bytes = append(keys, len(p.Key)), append(bytes, len(text))
	}
	return keys, bytes
}

// nodePages: the pages of a packer of the nodes of pairs.
func nodePages(pairs []api.Pair, size int) int {
	p := pack.New(size)
	for _, pair := range pairs {
		text, _ := node.Encode(node.Node{Key: pair.Key, Value: pair.Value})
		p.Add(text)
	}
	p.Flush()
	_, pages := p.Held()
	return pages
}

// treeOf: the tree that an index of pairs is stored of.
func treeOf(pairs []api.Pair) *btree.Tree {
	var tree btree.Tree
	for _, p := range pairs {
		tree.Set(p.Key, strings.Repeat("l", 12))
	}
	return &tree
}

// TestNeedIsWhatIsStored lays random pairs as they lie on a chip.
func TestNeedIsWhatIsStored(t *testing.T) {
	random := rand.New(rand.NewSource(1))
	all := plans(t)
	for range 400 {
		p := all[random.Intn(len(all))]
		if random.Intn(4) == 0 {
			p.Bytes = 249 + random.Intn(api.MaxRaw-248) // longer ones can hold as many entries as there may be
		}
		pairs := pairsOf(random, random.Intn(600), 1+random.Intn(64))
		keys, bytes := lengths(pairs)
		nodes := nodePages(pairs, p.Bytes)
		stored, err := index.Store(treeOf(pairs), p.Bytes)
		if err != api.OK {
			t.Fatalf("Store is %d", err)
		}
		checkNeed(t, inPages(p), keys, bytes, nodes, len(stored), true)
		checkNeed(t, p, keys, bytes, roundedUp(nodes, p.Room), roundedUp(len(stored), p.Room), true)
		checkFits(t, p, keys, bytes, roundedUp(nodes, p.Room)+roundedUp(len(stored), p.Room) <= p.Half)
	}
}

// slowIndexPages: how many pages an index takes if each page of each level has room for so many entries.
func slowIndexPages(keys, ofLeaf, above int) int {
	level := roundedUp(keys, ofLeaf)
	pages := level
	for level > 1 {
		level = roundedUp(level, above)
		pages += level
	}
	return pages
}

// mostKeys: of how many keys an index has at most 65536 pages.
func mostKeys(ofLeaf, above int) int {
	return sort.Search(1<<23, func(n int) bool { return slowIndexPages(n, ofLeaf, above) > 1<<16 }) - 1
}

// TestNeedOfTheGreatestIndex: an index of 65536 pages is one, and of 65537 is none.
func TestNeedOfTheGreatestIndex(t *testing.T) {
	p := inPages(planOf(t, example()))
	for _, key := range []int{1, 2, 30, 63, 64} {
		ofLeaf, above := (249-2)/(key+14), (249-2)/(key+4)
		n := mostKeys(ofLeaf, above)
		if got := slowIndexPages(n, ofLeaf, above); got != 1<<16 {
			t.Fatalf("an index of keys of %d bytes has %d pages at most", key, got)
		}
		checkNeed(t, p, many(n, key), many(n, 249), n, 1<<16, true)
		checkNeed(t, p, many(n+1, key), many(n+1, 249), 0, 0, false)
	}
	checkNeed(t, p, many(5000000, 1), many(5000000, 1), 0, 0, false)
}

// TestStoreOfTheGreatestIndex: layer 16 draws the line where Need does.
func TestStoreOfTheGreatestIndex(t *testing.T) {
	var tree btree.Tree
	for i := range mostKeys(3, 3) {
		text := strconv.Itoa(i)
		tree.Set(strings.Repeat("0", 64-len(text))+text, strings.Repeat("l", 12))
	}
	if stored, err := index.Store(&tree, 249); err != api.OK || len(stored) != 1<<16 {
		t.Errorf("Store is %d pages, %d", len(stored), err)
	}
	tree.Set(strings.Repeat("1", 64), strings.Repeat("l", 12))
	if _, err := index.Store(&tree, 249); err != api.ErrLong {
		t.Errorf("Store of one more is %d", err)
	}
}

// TestNeedOfManyEntries: a page has at most 255 entries, however short they are.
func TestNeedOfManyEntries(t *testing.T) {
	p := space.Plan{Half: 5, Room: 1, Bytes: api.MaxRaw}
	leaf := (api.MaxRaw - 2) / 15
	checkNeed(t, p, many(255*leaf, 1), many(255*leaf, 1), roundedUp(255*leaf, api.MaxRaw), 255+1, true)
	checkNeed(t, p, many(255*leaf+1, 1), many(255*leaf+1, 1), roundedUp(255*leaf+1, api.MaxRaw), 256+2+1, true)
}

// TestCapacityFitsWhateverTheyAre: so many nodes of any lengths.
func TestCapacityFitsWhateverTheyAre(t *testing.T) {
	random := rand.New(rand.NewSource(2))
	for _, p := range plans(t) {
		for range 5 {
			n := random.Intn(p.Capacity() + 1)
			keys, bytes := make([]int, n), make([]int, n)
			for i := range n {
				keys[i], bytes[i] = 1+random.Intn(64), 1+random.Intn(p.Bytes)
			}
			checkFits(t, p, keys, bytes, true)
		}
	}
}
