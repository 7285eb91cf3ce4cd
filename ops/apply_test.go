package ops_test

import (
	"maps"
	"math/rand"
	"slices"
	"strings"
	"testing"
	"unsafe"

	"chert/api"
	"chert/key"
	"chert/node"
	"chert/ops"
)

func checkApply(t *testing.T, pairs []api.Pair, group []node.Node, want []api.Pair) {
	t.Helper()
	beforePairs, beforeGroup := slices.Clone(pairs), slices.Clone(group)
	if got := ops.Apply(pairs, group); !slices.Equal(got, want) {
		t.Errorf("Apply(%.200q, %v) is %.200q, not %.200q", pairs, group, got, want)
	}
	if !slices.Equal(pairs, beforePairs) || !slices.Equal(group, beforeGroup) {
		t.Error("Apply changed what was given to it")
	}
}

// pairsOf: keys and values in turns.
func pairsOf(texts ...string) []api.Pair {
	var pairs []api.Pair
	for i := 0; i < len(texts); i += 2 {
		pairs = append(pairs, api.Pair{Key: texts[i], Value: texts[i+1]})
	}
	return pairs
}

func set(k, value string) node.Node { return node.Node{Key: k, Value: value} }

func drop(k string) node.Node { return node.Node{Key: k, Gone: true} }

type group = []node.Node

func TestApply(t *testing.T) {
	checkApply(t, nil, nil, nil)
	checkApply(t, pairsOf("a", "1", "b", "2"), nil, pairsOf("a", "1", "b", "2"))
	checkApply(t, nil, group{set("b", "2"), set("a", "1")}, pairsOf("a", "1", "b", "2"))
	checkApply(t, pairsOf("a", "1", "c", "3"), group{set("b", "2"), set("c", ""), drop("a")}, pairsOf("b", "2", "c", ""))
	checkApply(t, pairsOf("a", "1"), group{drop("a"), set("a", "2"), drop("b"), set("b", "1"), drop("b")}, pairsOf("a", "2"))
	checkApply(t, pairsOf("a", "1"), group{{Seq: 9, Last: true, Key: "a", Value: "2"}, {Key: "a", Value: "x", Gone: true}}, nil)
	checkApply(t, pairsOf("", "0", "\xff", "1"), group{set("", "2")}, pairsOf("", "2", "\xff", "1"))
	checkApply(t, pairsOf("b", "1", "a", "2", "b", "3"), group{set("c", "4")}, pairsOf("a", "2", "b", "3", "c", "4"))
}

// piecesOf: pairs of these pieces of a file.
func piecesOf(number int, pieces ...int) []api.Pair {
	var pairs []api.Pair
	for _, k := range pieces {
		pairs = append(pairs, api.Pair{Key: encoded(pieceKey(number, k)), Value: "\x00a"})
	}
	return pairs
}

func TestPiecesOfAnInode(t *testing.T) {
	text := encoded(inodeKey(5))
	others := slices.Concat(piecesOf(4, 0, 1, 9), pairsOf(encoded(entryKey(5, "a")), "x"))
	behind := piecesOf(6, 0, 1, 9)
	before := slices.Concat(others, piecesOf(5, 0, 1, 2, 127, 1<<32-1), behind)
	check := func(n node.Node, pieces ...int) {
		t.Helper()
		var inode []api.Pair
		if !n.Gone {
			inode = pairsOf(n.Key, n.Value)
		}
		checkApply(t, before, group{n}, slices.Concat(others[:3], inode, others[3:], piecesOf(5, pieces...), behind))
	}
	check(drop(text))
	check(set(text, file(1, 0)))
	check(set(text, file(1, 1)), 0)
	check(set(text, file(1, 63)), 0)
	check(set(text, file(1, 64)), 0)
	check(set(text, file(1, 65)), 0, 1)
	check(set(text, file(0, 128)), 0, 1)
	check(set(text, file(1, 129)), 0, 1, 2)
	check(set(text, file(1, 127*64)), 0, 1, 2)
	check(set(text, file(1, 8192)), 0, 1, 2, 127)
	check(set(text, file(1, (1<<32-1)*64)), 0, 1, 2, 127)
	check(set(text, file(1, (1<<32-1)*64+1)), 0, 1, 2, 127, 1<<32-1)
	check(set(text, file(1, api.MaxNumber)), 0, 1, 2, 127, 1<<32-1)
	check(set(text, node.PutInode(node.Inode{Dir: true, Links: 1})))
	check(set(text, node.PutInode(node.Inode{Dir: true, Links: 1, Size: 64})), 0)
	for _, value := range []string{"", "x", file(1, -1), file(-1, 0), file(1, 0) + "\x00", file(1, 0)[1:], "\x02" + file(1, 0)[1:]} {
		check(set(text, value), 0, 1, 2, 127, 1<<32-1)
	}
}

func TestPiecesOfOtherNodes(t *testing.T) {
	before := slices.Concat(piecesOf(5, 0, 1), piecesOf(6, 0))
	checkApply(t, before, group{drop(encoded(entryKey(5, "a")))}, before)
	checkApply(t, before, group{drop(encoded(inodeKey(7)))}, before)
	checkApply(t, before, group{drop(encoded(inodeKey(5)) + "\x00")}, before)
	checkApply(t, before, group{drop(encoded(pieceKey(5, 0)))}, before[1:])
	checkApply(t, before, group{set(encoded(pieceKey(5, 0)), file(1, 0))}, slices.Concat(pairsOf(before[0].Key, file(1, 0)), before[1:]))
	// In order: what is set behind the inode stays.
	one := encoded(pieceKey(5, 1))
	checkApply(t, before, group{drop(encoded(inodeKey(5))), set(one, "\x00b")}, slices.Concat(pairsOf(one, "\x00b"), before[2:]))
	checkApply(t, before, group{set(one, "\x00b"), drop(encoded(inodeKey(5)))}, before[2:])
}

// TestTextsBetweenPieces: what is no key of a piece stays, though it lies among them.
func TestTextsBetweenPieces(t *testing.T) {
	begin := encoded(inodeKey(5))[:8] + "\x03"
	before := pairsOf(begin, "1", begin+"\x00", "2", begin+"\x00\x00\x00\x01", "3", begin+"\x00\x00\x00\x01\x00", "4", begin+"\x01\x01", "5")
	after := slices.Delete(slices.Clone(before), 2, 3)
	checkApply(t, before, group{drop(encoded(inodeKey(5)))}, after)
	checkApply(t, before, group{set(encoded(inodeKey(5)), file(1, 64))}, slices.Concat(pairsOf(encoded(inodeKey(5)), file(1, 64)), after))
}

// slowApply goes by the chapter's words over a map.
func slowApply(pairs []api.Pair, nodes []node.Node) []api.Pair {
	values := map[string]string{}
	for _, pair := range pairs {
		values[pair.Key] = pair.Value
	}
	for _, n := range nodes {
		values[n.Key] = n.Value
		size := 0
		inode, ok := node.GetInode(n.Value)
		if n.Gone {
			delete(values, n.Key)
		} else if size = inode.Size; !ok {
			continue
		}
		k, _ := key.Decode(n.Key)
		if k.Kind != key.Inode {
			continue
		}
		maps.DeleteFunc(values, func(text, _ string) bool {
			other, _ := key.Decode(text)
			return other.Kind == key.Data && other.Number == k.Number && other.Piece*64 >= size
		})
	}
	var list []api.Pair
	for _, text := range slices.Sorted(maps.Keys(values)) {
		list = append(list, api.Pair{Key: text, Value: values[text]})
	}
	return list
}

func TestRandomGroups(t *testing.T) {
	random := rand.New(rand.NewSource(7))
	someKey := func() string {
		number := 1 + random.Intn(3)
		switch random.Intn(7) {
		case 0, 1:
			return encoded(inodeKey(number))
		case 2:
			return encoded(entryKey(number, string("abc"[random.Intn(3)])))
		case 3:
			return encoded(pieceKey(number, 0))[:random.Intn(14)]
		}
		return encoded(pieceKey(number, random.Intn(4)))
	}
	values := []string{"", "\x00a", file(1, 0), file(1, 63), file(1, 64), file(2, 130), file(1, -1)}
	for range 5000 {
		var pairs []api.Pair
		for range random.Intn(20) {
			pairs = append(pairs, api.Pair{Key: someKey(), Value: values[random.Intn(len(values))]})
		}
		var nodes []node.Node
		for range random.Intn(8) {
			nodes = append(nodes, node.Node{Key: someKey(), Value: values[random.Intn(len(values))], Gone: random.Intn(3) == 0})
		}
		checkApply(t, pairs, nodes, slowApply(pairs, nodes))
		if t.Failed() {
			return
		}
	}
}

func TestPairsAreNew(t *testing.T) {
	pairs := append(make([]api.Pair, 0, 3), api.Pair{Key: strings.Repeat("a", 2), Value: strings.Repeat("b", 2)})
	nodes := append(make(group, 0, 3), set(strings.Repeat("c", 2), strings.Repeat("d", 2)))
	seen := map[*byte]string{}
	for _, text := range []string{pairs[0].Key, pairs[0].Value, nodes[0].Key, nodes[0].Value} {
		seen[unsafe.StringData(text)] = text
	}
	for range 2 {
		for _, pair := range ops.Apply(pairs, nodes) {
			for _, text := range []string{pair.Key, pair.Value} {
				if _, shared := seen[unsafe.StringData(text)]; shared {
					t.Errorf("%q shares memory", text)
				}
				seen[unsafe.StringData(text)] = text
			}
		}
	}
	if pairs[:3][1] != (api.Pair{}) || nodes[:3][1] != (node.Node{}) {
		t.Error("Apply wrote behind a list's end")
	}
}
