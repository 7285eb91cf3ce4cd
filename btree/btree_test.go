package btree_test

import (
	"iter"
	"math/rand"
	"slices"
	"strconv"
	"strings"
	"testing"
	"unsafe"

	"chert/api"
	"chert/btree"
)

func checkSet(t *testing.T, tree *btree.Tree, key, value, old string, had bool) {
	t.Helper()
	if got, ok := tree.Set(key, value); got != old || ok != had {
		t.Fatalf("Set(%.40q, %.40q) is %.40q, %v, not %.40q, %v", key, value, got, ok, old, had)
	}
}

func checkGet(t *testing.T, tree *btree.Tree, key, value string, has bool) {
	t.Helper()
	if got, ok := tree.Get(key); got != value || ok != has {
		t.Fatalf("Get(%.40q) is %.40q, %v, not %.40q, %v", key, got, ok, value, has)
	}
}

func checkDelete(t *testing.T, tree *btree.Tree, key, value string, had bool) {
	t.Helper()
	if got, ok := tree.Delete(key); got != value || ok != had {
		t.Fatalf("Delete(%.40q) is %.40q, %v, not %.40q, %v", key, got, ok, value, had)
	}
}

func checkRange(t *testing.T, tree *btree.Tree, from, to string, want ...api.Pair) {
	t.Helper()
	if got := pairs(tree.Range(from, to)); !slices.Equal(got, want) {
		t.Fatalf("Range(%.40q, %.40q) is %.200v, not %.200v", from, to, got, want)
	}
}

func checkLen(t *testing.T, tree *btree.Tree, keys, height int) {
	t.Helper()
	if n, h := tree.Len(); n != keys || h != height {
		t.Fatalf("Len is %d, %d, not %d, %d", n, h, keys, height)
	}
}

func pairs(all iter.Seq2[string, string]) []api.Pair {
	var list []api.Pair
	for key, value := range all {
		list = append(list, api.Pair{Key: key, Value: value})
	}
	return list
}

// oddKeys: some that are alike, begin with one another, or look strange.
func oddKeys() []string {
	return []string{
		"", "\x00", "\x00\x00", "\x00\x01", "\x01", "a", "a\x00", "a\x00\x00", "a\x01", "aa", "ab", "a\xff", "b", "B", "\x7f", "\x80", "\xc3\xa9", "\xe9",
		"\xff", "\xff\xff", strings.Repeat("\xff", 100), strings.Repeat("k", 64), strings.Repeat("k", 65), strings.Repeat("k", 3000) + "l", strings.Repeat("k", 3000),
	}
}

// numbered: n keys in ascending order.
func numbered(n int) []string {
	keys := make([]string, n)
	for i := range keys {
		text := strconv.Itoa(i)
		keys[i] = strings.Repeat("0", 6-len(text)) + text
	}
	return keys
}

// treeOf: a tree of keys, each with a value that tells it.
func treeOf(keys ...string) *btree.Tree {
	tree := &btree.Tree{}
	for _, key := range keys {
		tree.Set(key, "of "+key)
	}
	return tree
}

func TestExample(t *testing.T) {
	tree := treeOf("b", "a", "c")
	checkRange(t, tree, "a", "c", api.Pair{Key: "a", Value: "of a"}, api.Pair{Key: "b", Value: "of b"})
	checkRange(t, tree, "b", "", api.Pair{Key: "b", Value: "of b"}, api.Pair{Key: "c", Value: "of c"})
	if n := tree.Drop("a", "b"); n != 1 {
		t.Errorf("Drop is %d", n)
	}
	checkRange(t, tree, "", "", api.Pair{Key: "b", Value: "of b"}, api.Pair{Key: "c", Value: "of c"})
}

func TestSetAndGetAndDelete(t *testing.T) {
	var tree btree.Tree
	checkGet(t, &tree, "a", "", false)
	checkDelete(t, &tree, "a", "", false)
	checkSet(t, &tree, "a", "1", "", false)
	checkGet(t, &tree, "a", "1", true)
	checkSet(t, &tree, "a", "2", "1", true)
	checkSet(t, &tree, "a", "", "2", true)
	checkGet(t, &tree, "a", "", true) // an empty value is one
	checkSet(t, &tree, "a", "3", "", true)
	checkGet(t, &tree, "", "", false)
	checkSet(t, &tree, "", "4", "", false) // an empty key is one
	checkGet(t, &tree, "", "4", true)
	checkGet(t, &tree, "a", "3", true)
	checkLen(t, &tree, 2, 1)
	checkDelete(t, &tree, "b", "", false)
	checkDelete(t, &tree, "a", "3", true)
	checkDelete(t, &tree, "a", "", false)
	checkGet(t, &tree, "a", "", false)
	checkDelete(t, &tree, "", "4", true)
	checkLen(t, &tree, 0, 0)
	checkSet(t, &tree, "a", "5", "", false)
	checkGet(t, &tree, "a", "5", true)
}

func TestOddKeys(t *testing.T) {
	keys := oddKeys()
	tree := &btree.Tree{}
	for i, key := range keys {
		checkGet(t, tree, key, "", false)
		checkSet(t, tree, key, strconv.Itoa(i), "", false)
		checkGet(t, tree, key, strconv.Itoa(i), true)
	}
	for i, key := range keys {
		checkGet(t, tree, key, strconv.Itoa(i), true)
		checkGet(t, tree, key+"\x00x", "", false)
	}
	slices.Sort(keys)
	var got []string
	for key := range tree.Range("", "") {
		got = append(got, key)
	}
	if !slices.Equal(got, keys) {
		t.Errorf("the keys are %.60q, not %.60q", got, keys)
	}
	for _, key := range keys {
		if _, ok := tree.Delete(key); !ok {
			t.Errorf("%.40q was not there", key)
		}
		checkGet(t, tree, key, "", false)
	}
	checkLen(t, tree, 0, 0)
}

// TestRangeBounds asks for each pair of bounds, those that are keys and those that are none.
func TestRangeBounds(t *testing.T) {
	keys := oddKeys()
	slices.Sort(keys)
	tree := treeOf(keys...)
	bounds := slices.Clone(keys)
	for _, key := range keys {
		bounds = append(bounds, key+"\x00", key+"m")
	}
	for _, from := range bounds {
		for _, to := range bounds {
			var want []api.Pair
			for _, key := range keys {
				if key >= from && (key < to || to == "") {
					want = append(want, api.Pair{Key: key, Value: "of " + key})
				}
			}
			checkRange(t, tree, from, to, want...)
		}
	}
}

func TestRangeEndsEarly(t *testing.T) {
	keys := numbered(200)
	tree := treeOf(keys...)
	for _, from := range []int{0, 1, 7, 8, 63, 199} {
		all := tree.Range(keys[from], "")
		for n := range len(keys) - from {
			var got []string
			for key := range all { // over again
				got = append(got, key)
				if len(got) > n {
					break
				}
			}
			if !slices.Equal(got, keys[from:from+n+1]) {
				t.Fatalf("%d keys from %d on are %v", n+1, from, got)
			}
		}
	}
}

func TestRangeWithinRange(t *testing.T) {
	keys := numbered(40)
	tree := treeOf(keys...)
	all := tree.Range("", "")
	var got []string
	for from := range all {
		for key := range all {
			if key == from {
				break
			}
			got = append(got, key)
		}
	}
	if want := len(keys) * (len(keys) - 1) / 2; len(got) != want {
		t.Errorf("there are %d pairs, not %d", len(got), want)
	}
}

// TestRangeAfterAChange: an iterator goes over what there is when it is ranged over.
func TestRangeAfterAChange(t *testing.T) {
	tree := &btree.Tree{}
	all := tree.Range("b", "e")
	if got := pairs(all); len(got) != 0 {
		t.Errorf("an empty tree has %v", got)
	}
	for _, key := range []string{"a", "b", "d", "e"} {
		tree.Set(key, "of "+key)
	}
	want := []api.Pair{{Key: "b", Value: "of b"}, {Key: "d", Value: "of d"}}
	if got := pairs(all); !slices.Equal(got, want) {
		t.Errorf("the keys are %v, not %v", got, want)
	}
	tree.Drop("", "")
	if got := pairs(all); len(got) != 0 {
		t.Errorf("an empty tree has %v", got)
	}
}

func TestDrop(t *testing.T) {
	keys := numbered(40)
	bounds := append([]string{"", "0", "00000", "000020x", "x"}, keys...)
	for _, from := range bounds {
		for _, to := range bounds {
			tree := treeOf(keys...)
			var left []string
			for _, key := range keys {
				if key < from || to != "" && key >= to {
					left = append(left, key)
				}
			}
			if n := tree.Drop(from, to); n != len(keys)-len(left) {
				t.Fatalf("Drop(%q, %q) is %d, not %d", from, to, n, len(keys)-len(left))
			}
			if got := slices.Concat(tree.Leaves()...); !slices.Equal(got, left) {
				t.Fatalf("Drop(%q, %q) leaves %v, not %v", from, to, got, left)
			}
			if n := tree.Drop(from, to); n != 0 {
				t.Fatalf("Drop(%q, %q) is %d the second time", from, to, n)
			}
			if n, _ := tree.Len(); n != len(left) {
				t.Fatalf("Len is %d after Drop(%q, %q), not %d", n, from, to, len(left))
			}
		}
	}
}

func TestNil(t *testing.T) {
	var tree *btree.Tree
	checkSet(t, tree, "a", "1", "", false)
	checkGet(t, tree, "a", "", false)
	checkGet(t, tree, "", "", false)
	checkDelete(t, tree, "a", "", false)
	checkRange(t, tree, "", "")
	checkRange(t, tree, "a", "b")
	checkLen(t, tree, 0, 0)
	if n := tree.Drop("", ""); n != 0 {
		t.Errorf("Drop is %d", n)
	}
	if leaves := tree.Leaves(); len(leaves) != 0 {
		t.Errorf("Leaves is %v", leaves)
	}
}

// TestAnyCalls compares random calls with a map.
func TestAnyCalls(t *testing.T) {
	random := rand.New(rand.NewSource(1))
	for _, many := range []int{1, 5, 9, 40, 300, 2000} {
		model := map[string]string{}
		tree := &btree.Tree{}
		keys := append(numbered(many), oddKeys()...)
		for step := range 6000 {
			key, value := keys[random.Intn(len(keys))], strconv.Itoa(step)
			old, had := model[key]
			switch random.Intn(8) {
			case 0, 1, 2:
				checkSet(t, tree, key, value, old, had)
				model[key] = value
			case 3, 4:
				checkGet(t, tree, key, old, had)
			case 5, 6:
				checkDelete(t, tree, key, old, had)
				delete(model, key)
			default:
				checkPart(t, tree, model, random.Intn(20) == 0, key, keys[random.Intn(len(keys))])
			}
			if n, height := tree.Len(); n != len(model) || (height == 0) != (n == 0) {
				t.Fatalf("Len is %d, %d, not %d", n, height, len(model))
			}
		}
	}
}

// checkPart compares the keys between two bounds with a map, and drops them if it is told to.
func checkPart(t *testing.T, tree *btree.Tree, model map[string]string, drop bool, from, to string) {
	t.Helper()
	var want []api.Pair
	for key, value := range model {
		if key >= from && (to == "" || key < to) {
			want = append(want, api.Pair{Key: key, Value: value})
		}
	}
	slices.SortFunc(want, func(a, b api.Pair) int { return strings.Compare(a.Key, b.Key) })
	checkRange(t, tree, from, to, want...)
	if !drop {
		return
	}
	if n := tree.Drop(from, to); n != len(want) {
		t.Fatalf("Drop(%q, %q) is %d, not %d", from, to, n, len(want))
	}
	for _, p := range want {
		delete(model, p.Key)
	}
	checkRange(t, tree, from, to)
}

func TestTreesAreApart(t *testing.T) {
	a, b := treeOf(numbered(20)...), &btree.Tree{}
	checkLen(t, b, 0, 0)
	b.Set("000003", "b")
	checkGet(t, a, "000003", "of 000003", true)
	checkDelete(t, a, "000003", "of 000003", true)
	checkGet(t, b, "000003", "b", true)
}

func TestTextsAreNew(t *testing.T) {
	key, value := strings.Repeat("k", 40), strings.Repeat("v", 40)
	tree := &btree.Tree{}
	tree.Set(key, value)
	seen := map[*byte]string{unsafe.StringData(key): "the key", unsafe.StringData(value): "the value"}
	check := func(name, text string) {
		t.Helper()
		if other, shared := seen[unsafe.StringData(text)]; shared {
			t.Errorf("%s shares memory with %s", name, other)
		}
		seen[unsafe.StringData(text)] = name
	}
	for range 2 {
		for k, v := range tree.Range("", "") {
			check("a key of Range", k)
			check("a value of Range", v)
		}
		got, _ := tree.Get(key)
		check("a value of Get", got)
		check("a key of Leaves", tree.Leaves()[0][0])
	}
	old, _ := tree.Set(key, "other")
	check("the value before", old)
	last, _ := tree.Delete(key)
	check("the value of Delete", last)
}
