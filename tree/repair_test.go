package tree_test

import (
	"maps"
	"math/rand"
	"slices"
	"strings"
	"testing"

	"chert/api"
	"chert/key"
	"chert/node"
	"chert/path"
	"chert/tree"
)

func inodePair(number int, inode node.Inode) api.Pair {
	return api.Pair{Key: encoded(inodeKey(number)), Value: node.PutInode(inode)}
}

func entryPair(in int, name string, number int) api.Pair {
	return api.Pair{Key: encoded(entryKey(in, name)), Value: node.PutEntry(number)}
}

func dirPair(number int) api.Pair { return inodePair(number, node.Inode{Dir: true, Links: 1}) }

func filePair(number, links int) api.Pair { return inodePair(number, node.Inode{Links: links}) }

// sorted: in the order of the keys; of pairs with the same key the order stays.
func sorted(pairs ...api.Pair) []api.Pair {
	slices.SortStableFunc(pairs, func(a, b api.Pair) int { return strings.Compare(a.Key, b.Key) })
	return pairs
}

func checkBuild(t *testing.T, pairs []api.Pair, err api.Errno) {
	t.Helper()
	before := slices.Clone(pairs)
	tr, got := tree.Build(pairs)
	if got != err || (tr == nil) != (err != api.OK) {
		t.Errorf("Build(%.300q) is %v, %d, not %d", pairs, tr != nil, got, err)
	}
	if err == api.OK {
		checkPairs(t, tr, pairs)
	}
	if !slices.Equal(pairs, before) {
		t.Error("Build changed its pairs")
	}
}

func checkRepair(t *testing.T, pairs, want []api.Pair, wrong int) {
	t.Helper()
	before := slices.Clone(pairs)
	tr, got := tree.Repair(pairs)
	if got != wrong {
		t.Errorf("Repair(%.300q) puts %d right, not %d", pairs, got, wrong)
	}
	checkPairs(t, tr, want)
	if !slices.Equal(pairs, before) {
		t.Error("Repair changed its pairs")
	}
}

// checkRight: pairs of which Build and Repair make a tree without a fault.
func checkRight(t *testing.T, pairs ...api.Pair) {
	t.Helper()
	checkBuild(t, sorted(pairs...), api.OK)
	checkRepair(t, pairs, pairs, 0)
}

// checkWrong: pairs, in order, of which Build makes no tree, and Repair another one.
func checkWrong(t *testing.T, pairs, want []api.Pair, wrong int) {
	t.Helper()
	checkBuild(t, sorted(pairs...), api.ErrForm)
	checkRepair(t, pairs, sorted(want...), wrong)
}

type list = []api.Pair

func TestTreesOfPairs(t *testing.T) {
	checkRight(t, dirPair(1))
	checkRight(t, filePair(0, 1), dirPair(1), entryPair(1, "a", 0))
	checkRight(t, dirPair(0), entryPair(0, "a", api.MaxNumber), dirPair(1), entryPair(1, "a", 0), inodePair(api.MaxNumber, node.Inode{Links: 1, Size: api.MaxFile}))
	checkRight(t, dirPair(1), entryPair(1, "a", 2), entryPair(1, "b", 2), entryPair(1, strings.Repeat("n", 32), 2), filePair(2, 3))
}

func TestNoRoot(t *testing.T) {
	checkWrong(t, nil, list{dirPair(1)}, 1)
	checkWrong(t, list{}, list{dirPair(1)}, 1)
	checkWrong(t, list{filePair(1, 1)}, list{dirPair(1)}, 1)
	checkWrong(t, list{dirPair(2)}, list{dirPair(1)}, 2)
	checkWrong(t, list{entryPair(1, "a", 2), filePair(2, 1)}, list{dirPair(1), entryPair(1, "a", 2), filePair(2, 1)}, 1)
	checkWrong(t, list{{Key: encoded(inodeKey(1))}}, list{dirPair(1)}, 2)
	checkWrong(t, list{inodePair(1, node.Inode{Size: 9}), entryPair(1, "a", 2), filePair(2, 1)}, list{dirPair(1), entryPair(1, "a", 2), filePair(2, 1)}, 1)
}

func TestRootWithAName(t *testing.T) {
	checkWrong(t, list{dirPair(1), entryPair(1, "a", 1)}, list{dirPair(1)}, 1)
	checkWrong(t, list{filePair(1, 1), entryPair(1, "a", 1)}, list{dirPair(1)}, 2)
	checkWrong(t, list{entryPair(1, "a", 1)}, list{dirPair(1)}, 2)
	checkWrong(t, list{dirPair(1), entryPair(1, "a", 2), dirPair(2), entryPair(2, "b", 1)}, list{dirPair(1), entryPair(1, "a", 2), dirPair(2)}, 1)
}

func TestWrongEntries(t *testing.T) {
	good := list{dirPair(1), entryPair(1, "f", 2), filePair(2, 1)}
	for _, more := range []api.Pair{
		entryPair(1, "a", 3), entryPair(1, "a", 0), entryPair(2, "a", 2), entryPair(3, "a", 2), entryPair(2, "a", 1), entryPair(9, "a", 9),
		entryPair(1, ".", 2), entryPair(1, "..", 2), entryPair(1, "a/b", 2), entryPair(1, "/", 2), entryPair(1, "\x00", 2), entryPair(1, "a\x00", 2),
		{Key: encoded(entryKey(1, "a"))}, {Key: encoded(entryKey(1, "a")), Value: node.PutEntry(-1)}, {Key: encoded(entryKey(1, "a")), Value: node.PutEntry(2) + "\x00"},
		{Key: encoded(entryKey(1, "a")), Value: node.PutInode(node.Inode{Links: 1})},
		{Key: encoded(inodeKey(3)), Value: node.PutEntry(2)}, {Key: encoded(inodeKey(3))}, {Key: encoded(inodeKey(3)), Value: node.PutInode(node.Inode{Links: 1}) + "\x00"},
		{Key: encoded(key.Key{Number: 2, Kind: key.Data}), Value: "\x00a"}, {Key: ""}, {Key: "a", Value: "b"}, {Key: encoded(inodeKey(2)) + "\x00", Value: node.PutInode(node.Inode{Links: 1})},
		filePair(3, 1), dirPair(3), filePair(0, 0), filePair(api.MaxNumber, 1),
	} {
		checkWrong(t, append(slices.Clone(good), more), good, 1)
	}
}

// TestEntriesWithoutANumber: they do not refer to 0.
func TestEntriesWithoutANumber(t *testing.T) {
	good := list{filePair(0, 1), dirPair(1), entryPair(1, "f", 0)}
	checkRight(t, good...)
	for _, value := range []string{"", node.PutEntry(0)[1:], node.PutEntry(0) + "\x00", node.PutEntry(-1)} {
		checkWrong(t, append(slices.Clone(good), api.Pair{Key: encoded(entryKey(1, "g")), Value: value}), good, 1)
	}
}

func TestDirectoriesWithSeveralNames(t *testing.T) {
	root := dirPair(1)
	// The name that is nearest to the root stays, and of those that are as near the first one.
	checkWrong(t, list{root, entryPair(1, "a", 2), entryPair(1, "b", 2), dirPair(2)}, list{root, entryPair(1, "a", 2), dirPair(2)}, 1)
	checkWrong(t, list{root, entryPair(1, "a", 3), entryPair(1, "z", 2), dirPair(2), dirPair(3), entryPair(3, "a", 2)}, list{root, entryPair(1, "a", 3), entryPair(1, "z", 2), dirPair(2), dirPair(3)}, 1)
	checkWrong(t, list{root, entryPair(1, "a", 4), entryPair(1, "b", 3), dirPair(2), dirPair(3), entryPair(3, "a", 2), dirPair(4), entryPair(4, "a", 2)}, list{root, entryPair(1, "a", 4), entryPair(1, "b", 3), dirPair(2), dirPair(3), dirPair(4), entryPair(4, "a", 2)}, 1)
	checkWrong(t, list{root, entryPair(1, "a", 2), dirPair(2), entryPair(2, "a", 2)}, list{root, entryPair(1, "a", 2), dirPair(2)}, 1)
	checkWrong(t, list{root, entryPair(1, "a", 2), dirPair(2), entryPair(2, "a", 3), dirPair(3), entryPair(3, "b", 2)}, list{root, entryPair(1, "a", 2), dirPair(2), entryPair(2, "a", 3), dirPair(3)}, 1)
}

func TestDirectoriesOutOfReach(t *testing.T) {
	root := dirPair(1)
	checkWrong(t, list{root, dirPair(2), entryPair(2, "a", 2)}, list{root}, 2)
	checkWrong(t, list{root, dirPair(2), entryPair(2, "a", 3), dirPair(3), entryPair(3, "a", 2)}, list{root}, 4)
	checkWrong(t, list{root, dirPair(2), entryPair(2, "a", 3), filePair(3, 1)}, list{root}, 3)
	checkWrong(t, list{root, entryPair(1, "f", 3), dirPair(2), entryPair(2, "a", 3), filePair(3, 2)}, list{root, entryPair(1, "f", 3), filePair(3, 1)}, 3)
}

func TestWrongInodes(t *testing.T) {
	root, a := dirPair(1), entryPair(1, "a", 2)
	for _, inode := range []node.Inode{{}, {Links: 2}, {Links: 100}, {Links: 101}, {Links: api.MaxNumber}} {
		checkWrong(t, list{root, a, inodePair(2, inode)}, list{root, a, filePair(2, 1)}, 1)
		inode.Dir = true
		checkWrong(t, list{root, a, inodePair(2, inode)}, list{root, a, dirPair(2)}, 1)
		checkWrong(t, list{inodePair(1, inode)}, list{root}, 1)
	}
	for _, size := range []int{8193, 10000, api.MaxNumber} {
		checkWrong(t, list{root, a, inodePair(2, node.Inode{Links: 1, Size: size})}, list{root, a, inodePair(2, node.Inode{Links: 1, Size: 8192})}, 1)
		checkWrong(t, list{root, a, inodePair(2, node.Inode{Links: 5, Size: size})}, list{root, a, inodePair(2, node.Inode{Links: 1, Size: 8192})}, 1)
	}
	checkWrong(t, list{root, a, inodePair(2, node.Inode{Dir: true, Links: 1, Size: 1})}, list{root, a, dirPair(2)}, 1)
	checkWrong(t, list{inodePair(1, node.Inode{Dir: true, Links: 1, Size: 8193})}, list{root}, 1)
	checkWrong(t, list{root, a, inodePair(2, node.Inode{Links: 2, Size: 7})}, list{root, a, inodePair(2, node.Inode{Links: 1, Size: 7})}, 1)
}

func TestManyLinks(t *testing.T) {
	pairs := list{dirPair(1)}
	for n := range api.MaxLinks {
		pairs = append(pairs, entryPair(1, twoLetters(n), 2))
	}
	good := append(slices.Clone(pairs), filePair(2, api.MaxLinks))
	checkRight(t, good...)
	more := append(slices.Clone(pairs), entryPair(1, "z", 2), filePair(2, api.MaxLinks+1))
	checkWrong(t, more, good, 2)
	more = append(slices.Clone(pairs), entryPair(1, "z", 2), filePair(2, api.MaxLinks))
	checkWrong(t, more, good, 1)
}

func TestBuildOfWhatIsNotInOrder(t *testing.T) {
	pairs := list{dirPair(1), entryPair(1, "a", 2), entryPair(1, "b", 3), filePair(2, 1), filePair(3, 1)}
	checkRight(t, pairs...)
	for i := range len(pairs) - 1 {
		other := slices.Clone(pairs)
		other[i], other[i+1] = other[i+1], other[i]
		checkBuild(t, other, api.ErrForm)
		checkRepair(t, other, pairs, 0)
		twice := slices.Insert(slices.Clone(pairs), i, pairs[i])
		checkBuild(t, twice, api.ErrForm)
		checkRepair(t, twice, pairs, 1)
	}
}

func TestRepairOfTheSameKeys(t *testing.T) {
	root, a, f := dirPair(1), entryPair(1, "a", 2), filePair(2, 1)
	wrong := api.Pair{Key: f.Key}
	checkRepair(t, list{root, filePair(1, 1), root, a, entryPair(1, "a", 1), a, f, dirPair(2), f}, list{root, a, f}, 6)
	checkRepair(t, list{f, wrong, root, a, f}, list{root, a, f}, 2)
	checkRepair(t, list{f, root, a, wrong}, list{root}, 3)
	checkRepair(t, list{f, root, a, {Key: a.Key}}, list{root}, 3)
	checkRepair(t, list{root, a, f, {Key: "x"}, {Key: "x"}}, list{root, a, f}, 2)
	checkRepair(t, list{root, a, f, {Key: root.Key}}, list{root, a, f}, 3)
}

func TestNumbersBehindRepair(t *testing.T) {
	tr, _ := tree.Repair(list{dirPair(1), entryPair(1, "a", 5), filePair(5, 1), filePair(9, 1), entryPair(1, "b", 20)})
	checkApply(t, tr, create("/c"), []key.Key{entryKey(1, "c"), inodeKey(6)}, api.OK)
	tr, _ = tree.Repair(nil)
	checkApply(t, tr, create("/c"), []key.Key{entryKey(1, "c"), inodeKey(2)}, api.OK)
	tr, _ = tree.Repair(list{dirPair(1), entryPair(1, "a", api.MaxNumber), filePair(api.MaxNumber, 1)})
	checkApply(t, tr, create("/c"), nil, api.ErrFull)
}

// slowBuild goes by the chapter's words: are pairs a tree's?
func slowBuild(pairs []api.Pair) bool {
	m := model{inodes: map[int]node.Inode{}, names: map[entry]int{}}
	for i, pair := range pairs {
		if i > 0 && pairs[i-1].Key >= pair.Key {
			return false
		}
		if !m.take(pair) {
			return false
		}
	}
	if !m.inodes[1].Dir {
		return false
	}
	links := map[int]int{}
	for e, number := range m.names {
		links[number]++
		if parts, err := path.Split("/" + e.name); err != api.OK || len(parts) != 1 || !m.inodes[e.in].Dir {
			return false
		}
		if _, ok := m.inodes[number]; !ok {
			return false
		}
	}
	reached := map[int]int{1: 1}
	for range m.inodes {
		for e, number := range m.names {
			if reached[e.in] > 0 {
				reached[number] = 1
			}
		}
	}
	for number, inode := range m.inodes {
		names := 1
		if number == 1 {
			names = 0
		}
		if inode.Dir && (inode.Links != 1 || inode.Size != 0 || links[number] != names || reached[number] == 0) {
			return false
		}
		if !inode.Dir && (inode.Links != links[number] || inode.Links < 1 || inode.Links > 100 || inode.Size > 8192) {
			return false
		}
	}
	return true
}

// take: what a pair tells; false if it is of no inode and no entry.
func (m model) take(pair api.Pair) bool {
	k, _ := key.Decode(pair.Key)
	switch k.Kind {
	case key.Inode:
		inode, ok := node.GetInode(pair.Value)
		if ok {
			m.inodes[k.Number] = inode
		}
		return ok
	case key.Entry:
		number, ok := node.GetEntry(pair.Value)
		if ok {
			m.names[entry{k.Number, k.Name}] = number
		}
		return ok
	}
	return false
}

// slowRepair goes by the chapter's words, step by step, and counts as it goes.
func slowRepair(pairs []api.Pair) ([]api.Pair, int) {
	m := model{inodes: map[int]node.Inode{}, names: map[entry]int{}}
	wrong := 0
	for i, pair := range pairs {
		again := slices.ContainsFunc(pairs[i+1:], func(p api.Pair) bool { return p.Key == pair.Key })
		if again || !m.take(pair) {
			wrong++
		}
	}
	before := m.copy()
	if root, ok := m.inodes[1]; !ok || !root.Dir {
		wrong++
		m.inodes[1] = node.Inode{Dir: true, Links: 1}
		delete(before.inodes, 1) // counted
	}
	kept, names := map[entry]int{}, map[int]int{}
	for order := []int{1}; len(order) > 0; order = order[1:] {
		for _, e := range slices.SortedFunc(maps.Keys(m.names), func(a, b entry) int { return strings.Compare(a.name, b.name) }) {
			number := m.names[e]
			inode, exists := m.inodes[number]
			parts, err := path.Split("/" + e.name)
			if e.in != order[0] || !exists || err != api.OK || len(parts) != 1 || number == 1 || inode.Dir && names[number] > 0 || names[number] == 100 {
				continue
			}
			kept[e] = number
			names[number]++
			if inode.Dir {
				order = append(order, number)
			}
		}
	}
	wrong += len(m.names) - len(kept)
	after := model{inodes: map[int]node.Inode{}, names: kept}
	for number, inode := range m.inodes {
		if number != 1 && names[number] == 0 {
			wrong++
			continue
		}
		inode.Links = names[number]
		inode.Size = min(inode.Size, 8192)
		if inode.Dir {
			inode.Links, inode.Size = 1, 0
		}
		after.inodes[number] = inode
		if old, ok := before.inodes[number]; ok && old != inode {
			wrong++
		}
	}
	return after.pairs(), wrong
}

func somePair(random *rand.Rand) api.Pair {
	names := []string{"a", "b", "c", "d", ".", "a/b", "\x00"}
	sizes := []int{0, 0, 0, 8192, 8193}
	number := 1 + random.Intn(6)
	pair := entryPair(number, names[random.Intn(len(names))], 1+random.Intn(6))
	if random.Intn(2) == 0 {
		pair = inodePair(number, node.Inode{Dir: random.Intn(2) == 0, Links: 1 + random.Intn(2), Size: sizes[random.Intn(len(sizes))]})
	}
	switch random.Intn(30) {
	case 0:
		pair.Value += "\x00"
	case 1:
		pair.Key += "\x00"
	}
	return pair
}

func TestRandomPairs(t *testing.T) {
	random := rand.New(rand.NewSource(3))
	for range 20000 {
		var pairs []api.Pair
		for range random.Intn(16) {
			pairs = append(pairs, somePair(random))
		}
		checkPairsOf(t, pairs)
		if t.Failed() {
			return
		}
	}
}

// TestNearlyRightPairs: of a tree, with few changes.
func TestNearlyRightPairs(t *testing.T) {
	random := rand.New(rand.NewSource(4))
	right := 0
	for range 8000 {
		m := newModel()
		for range 3 + random.Intn(20) {
			m, _, _ = m.apply(someOp(random))
		}
		pairs := m.pairs()
		for range random.Intn(3) {
			i := random.Intn(len(pairs))
			switch random.Intn(4) {
			case 0:
				pairs = slices.Delete(pairs, i, min(i+1, len(pairs)-1))
			case 1:
				pairs = slices.Insert(pairs, i, somePair(random))
			case 2:
				pairs[i].Value = somePair(random).Value
			case 3:
				pairs = sorted(append(pairs, somePair(random))...)
			}
		}
		if slowBuild(pairs) {
			right++
		}
		checkPairsOf(t, pairs)
		if t.Failed() {
			return
		}
	}
	if right < 1000 || right > 7000 {
		t.Errorf("%d of the lists are trees", right)
	}
}

// checkPairsOf: what Build and Repair answer for any pairs.
func checkPairsOf(t *testing.T, pairs []api.Pair) {
	t.Helper()
	err := api.ErrForm
	if slowBuild(pairs) {
		err = api.OK
	}
	checkBuild(t, pairs, err)
	want, wrong := slowRepair(pairs)
	checkRepair(t, pairs, want, wrong)
	checkBuild(t, want, api.OK)
}
