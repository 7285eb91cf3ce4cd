package tree_test

import (
	"math"
	"math/rand"
	"slices"
	"strings"
	"testing"
	"unsafe"

	"chert/api"
	"chert/key"
	"chert/node"
	"chert/tree"
)

func inodeKey(number int) key.Key { return key.Key{Number: number, Kind: key.Inode} }

func entryKey(in int, name string) key.Key {
	return key.Key{Number: in, Kind: key.Entry, Name: name}
}

func checkApply(t *testing.T, tr *tree.Tree, op tree.Op, want []key.Key, err api.Errno) {
	t.Helper()
	before := tr.Pairs()
	if keys, got := tr.Apply(op); !slices.Equal(keys, want) || got != err {
		t.Errorf("Apply(%.80v) is %.80v, %d, not %.80v, %d", op, keys, got, want, err)
	}
	if err != api.OK && !slices.Equal(tr.Pairs(), before) {
		t.Errorf("Apply(%.80v) told an error and changed something", op)
	}
}

func checkFind(t *testing.T, tr *tree.Tree, at string, want int, err api.Errno) {
	t.Helper()
	if number, got := tr.Find(at); number != want || got != err {
		t.Errorf("Find(%.60q) is %d, %d, not %d, %d", at, number, got, want, err)
	}
}

func checkList(t *testing.T, tr *tree.Tree, at string, want []string, err api.Errno) {
	t.Helper()
	if names, got := tr.List(at); !slices.Equal(names, want) || got != err {
		t.Errorf("List(%.60q) is %.60q, %d, not %.60q, %d", at, names, got, want, err)
	}
}

func checkInode(t *testing.T, tr *tree.Tree, number int, want node.Inode, exists bool) {
	t.Helper()
	if inode, ok := tr.Inode(number); inode != want || ok != exists {
		t.Errorf("Inode(%d) is %v, %v, not %v, %v", number, inode, ok, want, exists)
	}
}

func checkPairs(t *testing.T, tr *tree.Tree, want []api.Pair) {
	t.Helper()
	if pairs := tr.Pairs(); !slices.Equal(pairs, want) {
		t.Errorf("Pairs are %.200q, not %.200q", pairs, want)
	}
}

// made: a tree behind these ops, each of which must be possible.
func made(t *testing.T, list ...tree.Op) *tree.Tree {
	t.Helper()
	tr := tree.New()
	do(t, tr, list...)
	return tr
}

func do(t *testing.T, tr *tree.Tree, list ...tree.Op) {
	t.Helper()
	for _, op := range list {
		if _, err := tr.Apply(op); err != api.OK {
			t.Fatalf("%.80v: %d", op, err)
		}
	}
}

func mkdir(at string) tree.Op            { return tree.Op{Kind: tree.Mkdir, Path: at} }
func create(at string) tree.Op           { return tree.Op{Kind: tree.Create, Path: at} }
func link(at, to string) tree.Op         { return tree.Op{Kind: tree.Link, Path: at, To: to} }
func unlink(at string) tree.Op           { return tree.Op{Kind: tree.Unlink, Path: at} }
func rmdir(at string) tree.Op            { return tree.Op{Kind: tree.Rmdir, Path: at} }
func rename(at, to string) tree.Op       { return tree.Op{Kind: tree.Rename, Path: at, To: to} }
func resize(at string, size int) tree.Op { return tree.Op{Kind: tree.Resize, Path: at, Size: size} }

func TestKindsAreNumbered(t *testing.T) {
	kinds := []int{tree.Mkdir, tree.Create, tree.Link, tree.Unlink, tree.Rmdir, tree.Rename, tree.Resize}
	if !slices.Equal(kinds, []int{1, 2, 3, 4, 5, 6, 7}) {
		t.Errorf("the kinds are %v", kinds)
	}
}

func TestExample(t *testing.T) {
	tr := tree.New()
	checkApply(t, tr, mkdir("/a"), []key.Key{entryKey(1, "a"), inodeKey(2)}, api.OK)
	checkApply(t, tr, create("/a/f"), []key.Key{entryKey(2, "f"), inodeKey(3)}, api.OK)
	checkApply(t, tr, link("/a/f", "/g"), []key.Key{entryKey(1, "g"), inodeKey(3)}, api.OK)
	checkInode(t, tr, 3, node.Inode{Links: 2}, true)
	checkApply(t, tr, unlink("/a/f"), []key.Key{entryKey(2, "f"), inodeKey(3)}, api.OK)
	checkInode(t, tr, 3, node.Inode{Links: 1}, true)
	checkList(t, tr, "/", []string{"a", "g"}, api.OK)
}

func TestNew(t *testing.T) {
	tr := tree.New()
	checkFind(t, tr, "/", 1, api.OK)
	checkInode(t, tr, 1, node.Inode{Dir: true, Links: 1}, true)
	checkList(t, tr, "/", nil, api.OK)
	checkPairs(t, tr, newModel().pairs())
	for _, number := range []int{0, 2, -1, math.MinInt, math.MaxInt, api.MaxNumber} {
		checkInode(t, tr, number, node.Inode{}, false)
	}
}

func TestNoTree(t *testing.T) {
	for _, tr := range []*tree.Tree{nil, {}} {
		for kind := range 9 {
			checkApply(t, tr, tree.Op{Kind: kind, Path: "/", To: "/a"}, nil, api.ErrArg)
			checkApply(t, tr, tree.Op{Kind: kind}, nil, api.ErrArg)
		}
		for _, at := range []string{"/", "/a", "", "a"} {
			checkFind(t, tr, at, 0, api.ErrArg)
			checkList(t, tr, at, nil, api.ErrArg)
		}
		checkInode(t, tr, 1, node.Inode{}, false)
		checkPairs(t, tr, nil)
		if tr.Clone() != nil {
			t.Error("the clone of no tree is a tree")
		}
	}
}

func TestFind(t *testing.T) {
	tr := made(t, mkdir("/a"), mkdir("/a/b"), create("/a/f"), link("/a/f", "/a/b/g"))
	checkFind(t, tr, "/a", 2, api.OK)
	checkFind(t, tr, "/a/b", 3, api.OK)
	checkFind(t, tr, "/a/f", 4, api.OK)
	checkFind(t, tr, "/a/b/g", 4, api.OK)
	for at, err := range map[string]api.Errno{
		"/b": api.ErrMissing, "/a/g": api.ErrMissing, "/b/f": api.ErrMissing, "/a/b/f": api.ErrMissing, "/a/c/f/g": api.ErrMissing,
		"/a/f/g": api.ErrNotDir, "/a/f/g/h": api.ErrNotDir, "/a/b/g/f": api.ErrNotDir,
		"": api.ErrInvalid, "a": api.ErrInvalid, "/a/": api.ErrInvalid, "/a/.": api.ErrInvalid, "/x/../a": api.ErrInvalid, "/a/f/g\x00": api.ErrInvalid,
		"/" + strings.Repeat("n", 33): api.ErrNameLong, "/a/f/" + strings.Repeat("n", 33): api.ErrNameLong, strings.Repeat("/a", 17): api.ErrInvalid,
	} {
		checkFind(t, tr, at, 0, err)
		checkList(t, tr, at, nil, err)
		for _, kind := range []int{3, 4, 5, 6, 7} {
			checkApply(t, tr, tree.Op{Kind: kind, Path: at, To: "/", Size: -1}, nil, err)
		}
	}
	checkList(t, tr, "/a/f", nil, api.ErrNotDir)
}

func TestListIsInOrder(t *testing.T) {
	names := []string{"\x01", " ", "A", "B", "a", "a ", "aa", "b", "\x80", "ä", "\xff", "\xff\x01"}
	slices.Sort(names)
	tr := made(t, mkdir("/d"))
	for _, i := range rand.New(rand.NewSource(1)).Perm(len(names)) {
		do(t, tr, create("/d/"+names[i]))
	}
	for range 3 {
		checkList(t, tr, "/d", names, api.OK)
	}
	checkList(t, tr, "/", []string{"d"}, api.OK)
}

func TestPlaceOfANewName(t *testing.T) {
	tr := made(t, mkdir("/a"), create("/a/f"), create("/g"))
	for at, err := range map[string]api.Errno{
		"/": api.ErrExists, "/a": api.ErrExists, "/g": api.ErrExists, "/a/f": api.ErrExists,
		"/b/c": api.ErrMissing, "/a/b/c": api.ErrMissing, "/b/c/d": api.ErrMissing,
		"/g/a": api.ErrNotDir, "/a/f/a": api.ErrNotDir, "/g/a/b": api.ErrNotDir,
		"": api.ErrInvalid, "b/": api.ErrInvalid, "/a/..": api.ErrInvalid, "/b/c/": api.ErrInvalid, "/g/\x00": api.ErrInvalid,
		"/b/" + strings.Repeat("n", 33): api.ErrNameLong, strings.Repeat("/a", 17): api.ErrInvalid,
	} {
		checkApply(t, tr, mkdir(at), nil, err)
		checkApply(t, tr, create(at), nil, err)
		checkApply(t, tr, link("/g", at), nil, err)
		checkApply(t, tr, link("/a", at), nil, api.ErrIsDir)
		checkApply(t, tr, link("/x", at), nil, api.ErrMissing)
	}
	checkApply(t, tr, link("/", "/x"), nil, api.ErrIsDir)
}

func TestNumbersAreNotAssignedAgain(t *testing.T) {
	tr := made(t, create("/a"), mkdir("/b"), unlink("/a"), rmdir("/b"))
	checkApply(t, tr, create("/a"), []key.Key{entryKey(1, "a"), inodeKey(4)}, api.OK)
	checkApply(t, tr, create("/a"), nil, api.ErrExists)
	do(t, tr, create("/b"), rename("/a", "/b"))
	// A clone knows what was assigned, and Build what exists.
	other := tr.Clone()
	checkApply(t, other, mkdir("/c"), []key.Key{entryKey(1, "c"), inodeKey(6)}, api.OK)
	checkApply(t, tr, mkdir("/d"), []key.Key{entryKey(1, "d"), inodeKey(6)}, api.OK)
	do(t, tr, rmdir("/d"))
	built, _ := tree.Build(tr.Pairs())
	checkApply(t, built, mkdir("/c"), []key.Key{entryKey(1, "c"), inodeKey(5)}, api.OK)
	repaired, _ := tree.Repair(tr.Pairs())
	checkApply(t, repaired, mkdir("/c"), []key.Key{entryKey(1, "c"), inodeKey(5)}, api.OK)
	checkApply(t, tr, mkdir("/d"), []key.Key{entryKey(1, "d"), inodeKey(7)}, api.OK)
}

func TestGreatestNumber(t *testing.T) {
	m := newModel()
	m.inodes[api.MaxNumber-1] = node.Inode{Links: 1}
	m.names[entry{1, "f"}] = api.MaxNumber - 1
	tr, _ := tree.Build(m.pairs())
	checkApply(t, tr, mkdir("/a"), []key.Key{entryKey(1, "a"), inodeKey(api.MaxNumber)}, api.OK)
	for range 2 {
		checkApply(t, tr, create("/b"), nil, api.ErrFull)
		checkApply(t, tr, mkdir("/b"), nil, api.ErrFull)
		checkApply(t, tr.Clone(), mkdir("/b"), nil, api.ErrFull)
	}
	checkApply(t, tr, mkdir("/f"), nil, api.ErrExists)
	do(t, tr, link("/f", "/b"), rename("/b", "/c"), rmdir("/a"))
	checkApply(t, tr, create("/a"), nil, api.ErrFull)
	built, _ := tree.Build(tr.Pairs())
	do(t, built, create("/a"))
	built, _ = tree.Build(built.Pairs())
	checkApply(t, built, create("/b2"), nil, api.ErrFull)
}

// twoLetters: a name of its own for each number below 260.
func twoLetters(n int) string { return string([]byte{'a' + byte(n/10), 'a' + byte(n%10)}) }

func TestLinks(t *testing.T) {
	tr := made(t, create("/f"), mkdir("/d"))
	for n := 2; n <= api.MaxLinks; n++ {
		do(t, tr, link("/f", "/d/"+twoLetters(n)))
		checkInode(t, tr, 2, node.Inode{Links: n}, true)
	}
	checkApply(t, tr, link("/f", "/g"), nil, api.ErrLinks)
	checkApply(t, tr, link("/f", "/"), nil, api.ErrLinks)
	checkApply(t, tr, link("/f", "no path"), nil, api.ErrLinks)
	do(t, tr, unlink("/f"), rename("/d/"+twoLetters(50), "/f"))
	checkApply(t, tr, link("/f", "/g"), []key.Key{entryKey(1, "g"), inodeKey(2)}, api.OK)
}

func TestUnlinkAndRmdir(t *testing.T) {
	tr := made(t, mkdir("/d"), create("/d/f"), link("/d/f", "/g"), mkdir("/e"))
	checkApply(t, tr, unlink("/d"), nil, api.ErrIsDir)
	checkApply(t, tr, unlink("/"), nil, api.ErrIsDir)
	checkApply(t, tr, rmdir("/g"), nil, api.ErrNotDir)
	checkApply(t, tr, rmdir("/"), nil, api.ErrInvalid)
	checkApply(t, tr, rmdir("/d"), nil, api.ErrNotEmpty)
	checkApply(t, tr, unlink("/g"), []key.Key{entryKey(1, "g"), inodeKey(3)}, api.OK)
	checkApply(t, tr, unlink("/d/f"), []key.Key{entryKey(2, "f"), inodeKey(3)}, api.OK)
	checkInode(t, tr, 3, node.Inode{}, false)
	checkApply(t, tr, rmdir("/d"), []key.Key{entryKey(1, "d"), inodeKey(2)}, api.OK)
	checkInode(t, tr, 2, node.Inode{}, false)
	checkList(t, tr, "/", []string{"e"}, api.OK)
	checkApply(t, tr, rmdir("/e"), []key.Key{entryKey(1, "e"), inodeKey(4)}, api.OK)
	checkApply(t, tr, rmdir("/"), nil, api.ErrInvalid)
	checkPairs(t, tr, newModel().pairs())
}

func TestResize(t *testing.T) {
	tr := made(t, create("/f"), link("/f", "/g"), mkdir("/d"))
	for _, size := range []int{1, 8192, 8191, 0} {
		checkApply(t, tr, resize("/f", size), []key.Key{inodeKey(2)}, api.OK)
		checkInode(t, tr, 2, node.Inode{Links: 2, Size: size}, true)
		checkApply(t, tr, resize("/g", size), nil, api.OK)
	}
	for _, size := range []int{-1, math.MinInt} {
		checkApply(t, tr, resize("/f", size), nil, api.ErrInvalid)
		checkApply(t, tr, resize("/d", size), nil, api.ErrIsDir)
		checkApply(t, tr, resize("/h", size), nil, api.ErrMissing)
	}
	for _, size := range []int{8193, math.MaxInt} {
		checkApply(t, tr, resize("/f", size), nil, api.ErrBig)
		checkApply(t, tr, resize("/", size), nil, api.ErrIsDir)
	}
}

func TestWrongKinds(t *testing.T) {
	tr := made(t, mkdir("/a"))
	for _, kind := range []int{0, -1, 8, 9, 256, 257, math.MinInt, math.MaxInt} {
		checkApply(t, tr, tree.Op{Kind: kind, Path: "/b", To: "/c", Size: 1}, nil, api.ErrArg)
		checkApply(t, tr, tree.Op{Kind: kind}, nil, api.ErrArg)
	}
}

func TestRename(t *testing.T) {
	tr := made(t, mkdir("/a"), mkdir("/b"), create("/a/f"), create("/b/g"), link("/b/g", "/b/h"))
	checkApply(t, tr, rename("/a/f", "/a/e"), []key.Key{entryKey(2, "e"), entryKey(2, "f")}, api.OK)
	checkApply(t, tr, rename("/a/e", "/b/f"), []key.Key{entryKey(2, "e"), entryKey(3, "f")}, api.OK)
	checkApply(t, tr, rename("/b/f", "/f"), []key.Key{entryKey(1, "f"), entryKey(3, "f")}, api.OK)
	checkApply(t, tr, rename("/b", "/a/b"), []key.Key{entryKey(1, "b"), entryKey(2, "b")}, api.OK)
	checkFind(t, tr, "/a/b/g", 5, api.OK)
	checkApply(t, tr, rename("/f", "/a/b/g"), []key.Key{entryKey(1, "f"), entryKey(3, "g"), inodeKey(5)}, api.OK)
	checkInode(t, tr, 5, node.Inode{Links: 1}, true)
	checkApply(t, tr, rename("/a/b/g", "/a/b/h"), []key.Key{entryKey(3, "g"), entryKey(3, "h"), inodeKey(5)}, api.OK)
	checkInode(t, tr, 5, node.Inode{}, false)
	do(t, tr, mkdir("/c"))
	checkApply(t, tr, rename("/a", "/c"), []key.Key{entryKey(1, "a"), entryKey(1, "c"), inodeKey(6)}, api.OK)
	checkFind(t, tr, "/c/b/h", 4, api.OK)
	checkInode(t, tr, 6, node.Inode{}, false)
}

func TestRenameWithoutAChange(t *testing.T) {
	tr := made(t, mkdir("/a"), create("/a/f"), link("/a/f", "/g"))
	for _, at := range []string{"/a", "/a/f", "/g"} {
		checkApply(t, tr, rename(at, at), nil, api.OK)
	}
	before := tr.Pairs()
	checkApply(t, tr, rename("/a/f", "/g"), nil, api.OK)
	checkApply(t, tr, rename("/g", "/a/f"), nil, api.OK)
	checkPairs(t, tr, before)
}

func TestRenameOfWhatIsWrong(t *testing.T) {
	tr := made(t, mkdir("/a"), mkdir("/a/b"), mkdir("/c"), create("/f"), create("/c/g"))
	long := "/" + strings.Repeat("n", 33)
	for _, c := range []struct {
		at, to string
		err    api.Errno
	}{
		{"/", "/", api.ErrInvalid}, {"/", "/a", api.ErrInvalid}, {"/", "", api.ErrInvalid}, {"/", long, api.ErrInvalid},
		{"/a", "", api.ErrInvalid}, {"/a", "/a/", api.ErrInvalid}, {"/a", long, api.ErrNameLong}, {"/a", "/a" + long, api.ErrNameLong}, {"/a", "/", api.ErrInvalid}, {"/f", "/", api.ErrInvalid},
		{"/a", "/a/b", api.ErrInside}, {"/a", "/a/x", api.ErrInside}, {"/a", "/a/x/y", api.ErrInside}, {"/a/b", "/a/b/c", api.ErrInside},
		{"/a", "/x/y", api.ErrMissing}, {"/a", "/f/y", api.ErrNotDir}, {"/f", "/f/y", api.ErrNotDir}, {"/f", "/f/y/z", api.ErrNotDir}, {"/c/g", "/a/x/y", api.ErrMissing},
		{"/f", "/a", api.ErrIsDir}, {"/f", "/c", api.ErrIsDir}, {"/f", "/a/b", api.ErrIsDir}, {"/c/g", "/c", api.ErrIsDir},
		{"/a", "/f", api.ErrNotDir}, {"/a/b", "/c/g", api.ErrNotDir},
		{"/a", "/c", api.ErrNotEmpty}, {"/c", "/a", api.ErrNotEmpty}, {"/a/b", "/a", api.ErrNotEmpty}, {"/a/b", "/c", api.ErrNotEmpty},
		{"/x", "", api.ErrMissing}, {"/f/x", "/", api.ErrNotDir}, {"", long, api.ErrInvalid}, {long, "", api.ErrNameLong},
	} {
		checkApply(t, tr, rename(c.at, c.to), nil, c.err)
	}
	do(t, tr, rename("/a", "/ab"), rename("/ab/b", "/ab/bc"), rename("/f", "/ab/bc/f"))
	checkFind(t, tr, "/ab/bc/f", 5, api.OK)
}

// TestDeepDirectories: more of them within one another than a path can tell.
func TestDeepDirectories(t *testing.T) {
	tr := made(t, mkdir("/top"))
	for range 5000 {
		do(t, tr, mkdir("/new"), rename("/top", "/new/top"), rename("/new", "/top"))
	}
	checkList(t, tr, strings.Repeat("/top", 16), []string{"top"}, api.OK)
	pairs := tr.Pairs()
	built, err := tree.Build(pairs)
	if err != api.OK {
		t.Fatalf("Build of deep directories: %d", err)
	}
	checkPairs(t, built, pairs)
	checkPairs(t, tr.Clone(), pairs)
}

func TestClone(t *testing.T) {
	tr := made(t, mkdir("/a"), create("/a/f"))
	pairs := tr.Pairs()
	other := tr.Clone()
	checkPairs(t, other, pairs)
	do(t, other, create("/a/g"), unlink("/a/f"), create("/h"), resize("/h", 5))
	checkPairs(t, tr, pairs)
	checkFind(t, tr, "/a/g", 0, api.ErrMissing)
	changed := other.Pairs()
	do(t, tr, unlink("/a/f"), rmdir("/a"), mkdir("/h"))
	checkPairs(t, other, changed)
}

// somePath: mostly of few names, so that much of it exists.
func somePath(random *rand.Rand) string {
	odd := []string{"", "/", "a", "/a/", "//", "/.", "/a\x00", "/" + strings.Repeat("n", 33), strings.Repeat("/a", 17)}
	if random.Intn(20) == 0 {
		return odd[random.Intn(len(odd))]
	}
	at := ""
	for range 1 + random.Intn(3) {
		at += "/" + string("abc"[random.Intn(3)])
	}
	return at
}

func someOp(random *rand.Rand) tree.Op {
	kinds := []int{1, 1, 1, 2, 2, 3, 3, 4, 5, 6, 6, 6, 7, 0, 8}
	sizes := []int{0, 1, 64, 8192, 8193, -1}
	return tree.Op{Kind: kinds[random.Intn(len(kinds))], Path: somePath(random), To: somePath(random), Size: sizes[random.Intn(len(sizes))]}
}

func TestRandomOps(t *testing.T) {
	random := rand.New(rand.NewSource(2))
	seen := map[string]int{}
	for range 150 {
		tr, m := tree.New(), newModel()
		for range 120 {
			op := someOp(random)
			after, keys, err := m.apply(op)
			seen[string(rune('0'+max(op.Kind, 0)))+" "+string(rune(err))]++
			checkApply(t, tr, op, keys, err)
			m = after
			if random.Intn(4) == 0 {
				tr = again(t, tr, &m, random.Intn(4))
			}
			checkState(t, tr, m, somePath(random))
			if t.Failed() {
				t.Fatalf("behind %v", op)
			}
		}
	}
	for _, need := range []struct {
		kind rune
		err  api.Errno
	}{{'3', api.ErrExists}, {'5', api.ErrNotEmpty}, {'6', api.OK}, {'6', api.ErrInside}, {'6', api.ErrIsDir}, {'6', api.ErrNotDir}, {'6', api.ErrNotEmpty}, {'6', api.ErrMissing}} {
		if seen[string(need.kind)+" "+string(rune(need.err))] == 0 {
			t.Errorf("no op of kind %c told %d", need.kind, need.err)
		}
	}
}

// again: a tree that is alike, in one of the ways in which there is one.
func again(t *testing.T, tr *tree.Tree, m *model, way int) *tree.Tree {
	t.Helper()
	switch way {
	case 0:
		return tr.Clone()
	case 1:
		built, err := tree.Build(tr.Pairs())
		if err != api.OK {
			t.Fatalf("Build of Pairs is %d", err)
		}
		m.last = greatest(*m)
		return built
	case 2:
		repaired, wrong := tree.Repair(tr.Pairs())
		if wrong != 0 {
			t.Fatalf("Repair of Pairs puts %d right", wrong)
		}
		m.last = greatest(*m)
		return repaired
	}
	return tr
}

func greatest(m model) int {
	last := 0
	for number := range m.inodes {
		last = max(last, number)
	}
	return last
}

func checkState(t *testing.T, tr *tree.Tree, m model, at string) {
	t.Helper()
	checkPairs(t, tr, m.pairs())
	number, err := m.find(at)
	checkFind(t, tr, at, number, err)
	names, err := m.list(at)
	checkList(t, tr, at, names, err)
	inode, exists := m.inodes[number]
	checkInode(t, tr, number, inode, exists)
}

// TestAnswersAreNew: no text of an answer shares memory with an argument or another answer, or with what the tree keeps.
func TestAnswersAreNew(t *testing.T) {
	seen := map[*byte]string{}
	check := func(what, text string) {
		t.Helper()
		if other, shared := seen[unsafe.StringData(text)]; shared {
			t.Errorf("%s shares memory with %s", what, other)
		}
		seen[unsafe.StringData(text)] = what
	}
	tr := tree.New()
	at := strings.Repeat("/name", 1)
	check("the path's name", at[1:])
	for range 2 {
		keys, _ := tr.Apply(create(at))
		check("a key of Create", keys[0].Name)
		keys, _ = tr.Apply(link(at, "/other"))
		check("a key of Link", keys[0].Name)
		for range 2 {
			names, _ := tr.List("/")
			check("a name", names[0])
			for _, pair := range tr.Pairs() {
				check("a key", pair.Key)
				check("a value", pair.Value)
			}
			names, _ = tr.Clone().List("/")
			check("a name of a clone", names[0])
		}
		keys, _ = tr.Apply(unlink("/other"))
		check("a key of Unlink", keys[0].Name)
		keys, _ = tr.Apply(rename(at, "/other"))
		check("a key of Rename", keys[0].Name)
		check("another key of Rename", keys[1].Name)
		do(t, tr, unlink("/other"))
	}
}
