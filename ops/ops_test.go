package ops_test

import (
	"math/rand"
	"slices"
	"strings"
	"testing"
	"unsafe"

	"chert/api"
	"chert/key"
	"chert/node"
	"chert/ops"
	"chert/tree"
)

func inodeKey(number int) key.Key { return key.Key{Number: number, Kind: key.Inode} }

func entryKey(in int, name string) key.Key {
	return key.Key{Number: in, Kind: key.Entry, Name: name}
}

func pieceKey(number, piece int) key.Key {
	return key.Key{Number: number, Kind: key.Data, Piece: piece}
}

func encoded(k key.Key) string {
	text, ok := key.Encode(k)
	if !ok {
		panic("a key that is not valid")
	}
	return text
}

func checkOf(t *testing.T, tr *tree.Tree, op tree.Op, want []ops.Change, err api.Errno) {
	t.Helper()
	if changes, got := ops.Of(tr, op); !slices.Equal(changes, want) || got != err {
		t.Errorf("Of(%.80v) is %v, %d, not %v, %d", op, changes, got, want, err)
	}
}

func isNow(k key.Key, text string) ops.Change { return ops.Change{Key: k, Text: text} }

func isGone(k key.Key) ops.Change { return ops.Change{Key: k, Gone: true} }

func file(links, size int) string { return node.PutInode(node.Inode{Links: links, Size: size}) }

func TestOfEachKind(t *testing.T) {
	tr := tree.New()
	dir := node.PutInode(node.Inode{Dir: true, Links: 1})
	type list = []ops.Change
	checkOf(t, tr, tree.Op{Kind: tree.Mkdir, Path: "/a"}, list{isNow(entryKey(1, "a"), node.PutEntry(2)), isNow(inodeKey(2), dir)}, api.OK)
	checkOf(t, tr, tree.Op{Kind: tree.Create, Path: "/a/f"}, list{isNow(entryKey(2, "f"), node.PutEntry(3)), isNow(inodeKey(3), file(1, 0))}, api.OK)
	checkOf(t, tr, tree.Op{Kind: tree.Link, Path: "/a/f", To: "/f"}, list{isNow(entryKey(1, "f"), node.PutEntry(3)), isNow(inodeKey(3), file(2, 0))}, api.OK)
	checkOf(t, tr, tree.Op{Kind: tree.Resize, Path: "/f", Size: 9}, list{isNow(inodeKey(3), file(2, 9))}, api.OK)
	checkOf(t, tr, tree.Op{Kind: tree.Resize, Path: "/f", Size: 9}, nil, api.OK)
	checkOf(t, tr, tree.Op{Kind: tree.Rename, Path: "/f", To: "/a/f"}, nil, api.OK)
	checkOf(t, tr, tree.Op{Kind: tree.Unlink, Path: "/f"}, list{isGone(entryKey(1, "f")), isNow(inodeKey(3), file(1, 9))}, api.OK)
	checkOf(t, tr, tree.Op{Kind: tree.Rename, Path: "/a/f", To: "/f"}, list{isNow(entryKey(1, "f"), node.PutEntry(3)), isGone(entryKey(2, "f"))}, api.OK)
	checkOf(t, tr, tree.Op{Kind: tree.Create, Path: "/g"}, list{isNow(entryKey(1, "g"), node.PutEntry(4)), isNow(inodeKey(4), file(1, 0))}, api.OK)
	checkOf(t, tr, tree.Op{Kind: tree.Rename, Path: "/f", To: "/g"}, list{isGone(entryKey(1, "f")), isNow(entryKey(1, "g"), node.PutEntry(3)), isGone(inodeKey(4))}, api.OK)
	checkOf(t, tr, tree.Op{Kind: tree.Rmdir, Path: "/a"}, list{isGone(entryKey(1, "a")), isGone(inodeKey(2))}, api.OK)
	checkOf(t, tr, tree.Op{Kind: tree.Unlink, Path: "/g"}, list{isGone(entryKey(1, "g")), isGone(inodeKey(3))}, api.OK)
}

func TestOfWhatIsWrong(t *testing.T) {
	tr := tree.New()
	before := tr.Pairs()
	for kind := range 10 {
		checkOf(t, nil, tree.Op{Kind: kind, Path: "/a", To: "/b"}, nil, api.ErrArg)
		checkOf(t, nil, tree.Op{Kind: kind}, nil, api.ErrArg)
		_, err := tree.New().Apply(tree.Op{Kind: kind, Path: "no path"})
		checkOf(t, tr, tree.Op{Kind: kind, Path: "no path"}, nil, err)
		if kind != tree.Mkdir && kind != tree.Create {
			_, err = tree.New().Apply(tree.Op{Kind: kind, Path: "/a", To: "/"})
			checkOf(t, tr, tree.Op{Kind: kind, Path: "/a", To: "/"}, nil, err)
		}
	}
	if !slices.Equal(tr.Pairs(), before) {
		t.Error("an error has an effect")
	}
}

// slowOf: the changes of each key that Apply tells, by all pairs that exist then.
func slowOf(t *tree.Tree, op tree.Op) ([]ops.Change, api.Errno) {
	keys, err := t.Apply(op)
	values := map[string]string{}
	for _, pair := range t.Pairs() {
		values[pair.Key] = pair.Value
	}
	var changes []ops.Change
	for _, k := range keys {
		text, ok := values[encoded(k)]
		changes = append(changes, ops.Change{Key: k, Text: text, Gone: !ok})
	}
	return changes, err
}

// somePath: of few names and alike in many directories.
func somePath(random *rand.Rand) string {
	if random.Intn(20) == 0 {
		return []string{"", "/", "a", "/a/", "//a", "/aa", "/" + strings.Repeat("a", 33)}[random.Intn(7)]
	}
	at := ""
	for range 1 + random.Intn(4) {
		at += "/" + []string{"a", "b", "aa"}[random.Intn(3)]
	}
	return at
}

func TestOfRandomOps(t *testing.T) {
	random := rand.New(rand.NewSource(1))
	for range 100 {
		tr := tree.New()
		for range 150 {
			kinds := []int{1, 1, 1, 2, 2, 3, 4, 5, 6, 6, 6, 7}
			op := tree.Op{Kind: kinds[random.Intn(len(kinds))], Path: somePath(random), To: somePath(random), Size: random.Intn(3)}
			want, err := slowOf(tr.Clone(), op)
			checkOf(t, tr, op, want, err)
			if t.Failed() {
				return
			}
		}
	}
}

// TestOfPathsThatAnOpDoesNotUse: whatever they are.
func TestOfPathsThatAnOpDoesNotUse(t *testing.T) {
	for _, to := range []string{"", "/", "/a", "/a/a", "no path", "/b", "/a/"} {
		tr := tree.New()
		for _, op := range []tree.Op{{Kind: tree.Mkdir, Path: "/a"}, {Kind: tree.Create, Path: "/a/a"}, {Kind: tree.Resize, Path: "/a/a", Size: 1}, {Kind: tree.Unlink, Path: "/a/a"}, {Kind: tree.Rmdir, Path: "/a"}} {
			op.To = to
			want, err := slowOf(tr.Clone(), op)
			checkOf(t, tr, op, want, err)
		}
	}
}

func TestDeepPaths(t *testing.T) {
	tr := tree.New()
	at := ""
	for range api.MaxDepth - 1 {
		at += "/a"
		ops.Of(tr, tree.Op{Kind: tree.Mkdir, Path: at})
	}
	for _, op := range []tree.Op{{Kind: tree.Create, Path: at + "/a"}, {Kind: tree.Rename, Path: at + "/a", To: at + "/b"}, {Kind: tree.Rename, Path: at + "/b", To: "/b"}, {Kind: tree.Link, Path: "/b", To: at + "/c"}, {Kind: tree.Unlink, Path: at + "/c"}} {
		want, err := slowOf(tr.Clone(), op)
		checkOf(t, tr, op, want, err)
		if err != api.OK {
			t.Errorf("%v: %d", op, err)
		}
	}
}

func TestKeysAreNew(t *testing.T) {
	tr := tree.New()
	at := "/name"
	first, _ := ops.Of(tr, tree.Op{Kind: tree.Create, Path: at})
	names, _ := tr.List("/")
	second, _ := ops.Of(tr, tree.Op{Kind: tree.Unlink, Path: at})
	seen := map[*byte]int{}
	for i, text := range []string{at[1:], first[0].Key.Name, first[0].Text, first[1].Text, names[0], second[0].Key.Name} {
		if other, shared := seen[unsafe.StringData(text)]; shared {
			t.Errorf("text %d shares memory with text %d", i, other)
		}
		seen[unsafe.StringData(text)] = i
	}
}
