package fsck_test

import (
	"slices"
	"strings"
	"testing"

	"chert/api"
	"chert/fs"
	"chert/fsck"
	"chert/leb"
	"chert/nand"
	"chert/node"
)

// TestExample: the masters are erased, and everything is there after Check.
func TestExample(t *testing.T) {
	for _, g := range geometries {
		f, c := formatted(t, g)
		ok(t, f.Mkdir("/a"), f.Create("/a/f"), f.Write("/a/f", 60, "hello"), f.Link("/a/f", "/g"), f.Sync())
		want := pairsOf(t, f)
		v := attached(t, c, g)
		ok(t, v.Unmap(0), v.Unmap(1))
		none, err := fs.Mount(c, g)
		if none != nil || err != api.ErrForm {
			t.Fatalf("Mount is %v, %d", none, err)
		}
		checkReport(t, c, g, fsck.Report{Gen: 1, Groups: 4, Nodes: 8})
		checkShown(t, c, g, 2, want)
		checkReport(t, c, g, fsck.Report{Gen: 2, Nodes: 8})
		checkShown(t, c, g, 3, want)
	}
}

func TestCheckOfWhatIsWrong(t *testing.T) {
	other := usual
	other.Blocks++
	_, c := formatted(t, usual)
	changes := c.Changes()
	checkError(t, nil, usual, api.ErrArg)
	for _, g := range []api.Geometry{
		{}, other,
		{Blocks: 14, Pages: 16, Chunks: 2, Chunk: 128, T: 3},
		{Blocks: 14, Pages: 16, Chunks: 2, Chunk: 128, T: 9},
	} {
		checkError(t, c, g, api.ErrArg)
	}
	if c.Changes() != changes {
		t.Error("what told an error changed the chip")
	}
	for _, g := range []api.Geometry{
		{Blocks: 11, Pages: 16, Chunks: 2, Chunk: 128, T: 2},
		{Blocks: 14, Pages: 12, Chunks: 2, Chunk: 128, T: 2},
		{Blocks: 14, Pages: 16, Chunks: 1, Chunk: 255, T: 2},
	} {
		checkError(t, newChip(t, g), g, api.ErrArg)
	}
	checkError(t, newChip(t, usual), usual, api.ErrForm)
	c.Cut(1, 0)
	c.Erase(0)
	checkError(t, c, usual, api.ErrPower)
	checkError(t, c, other, api.ErrArg)
	c.On()
	_, err := fsck.Check(c, usual)
	if err != api.OK && err != api.ErrForm {
		t.Errorf("Check is %d", err)
	}
}

// TestComplete: all blocks of nodes have to be there, with the labels that they should have.
func TestComplete(t *testing.T) {
	file := someFile("abc")
	first, second := pairsText(file[:2]...), pairsText(file[2:]...)
	var v *leb.Volume
	put := func(id int, pages ...string) { ok(t, v.Change(id, false, pages...)) }
	for what, alter := range map[string]func(){
		"nothing":                   func() {},
		"the first is gone":         func() { ok(t, v.Unmap(nodes5)) },
		"the second is gone":        func() { ok(t, v.Unmap(nodes5+1)) },
		"no label":                  func() { put(nodes5, first) },
		"no label in the second":    func() { put(nodes5+1, second) },
		"no page":                   func() { put(nodes5) },
		"another kind":              func() { put(nodes5, labelText('I', 5, 0, 2), first) },
		"another generation":        func() { put(nodes5, labelText('M', 6, 0, 2), first) },
		"a number":                  func() { put(nodes5, labelText('M', 5, 1, 2), first) },
		"one block more":            func() { put(nodes5, labelText('M', 5, 0, 3), first) },
		"one block less":            func() { put(nodes5+1, labelText('M', 5, 1, 1), second) },
		"another generation behind": func() { put(nodes5+1, labelText('M', 4, 1, 2), second) },
		"the first number behind":   func() { put(nodes5+1, labelText('M', 5, 0, 2), second) },
		"no blocks":                 func() { put(nodes5, labelText('M', 5, 0, 0), first); ok(t, v.Unmap(nodes5+1)) },
		"very many blocks":          func() { put(nodes5, labelText('M', 5, 0, api.MaxNumber), first) },
	} {
		var c *nand.Chip
		v, c = newVolume(t)
		putNodes(t, v, 5, 0, 2, first)
		putNodes(t, v, 5, 1, 2, second)
		alter()
		if what == "nothing" {
			checkReport(t, c, usual, fsck.Report{Gen: 5, Nodes: 4})
			checkShown(t, c, usual, 6, file)
			continue
		}
		t.Log(what)
		checkError(t, c, usual, api.ErrForm)
		putNodes(t, v, 4, 0, 1, pairsText(someFile("older")...)) // which is complete
		checkReport(t, c, usual, fsck.Report{Gen: 4, Nodes: 4})
		checkRead(t, c, "/f", "older")
	}
}

// TestLostLabel: a label that can't be read is none.
func TestLostLabel(t *testing.T) {
	v, c := newVolume(t)
	putNodes(t, v, 5, 0, 1, pairsText(someFile("abc")...))
	lose(t, c, nodes5, 1, 4) // the first data page, and another one of its group
	checkReport(t, c, usual, fsck.Report{Gen: 5, Nodes: 4})

	v, c = newVolume(t)
	putNodes(t, v, 5, 0, 1, "", "", "", pairsText(someFile("abc")...))
	lose(t, c, nodes5, 1, 4)
	checkError(t, c, usual, api.ErrForm)
	putNodes(t, v, 3, 0, 1, pairsText(someFile("xyz")...))
	checkReport(t, c, usual, fsck.Report{Gen: 3, Nodes: 4})
	checkShown(t, c, usual, 6, someFile("xyz"))
}

// TestManyBlocks: a generation has no more than a hundred blocks of nodes, and an index is none of them.
func TestManyBlocks(t *testing.T) {
	g := api.Geometry{Blocks: 64, Pages: 16, Chunks: 2, Chunk: 128, T: 2}
	c := newChip(t, g)
	v := attached(t, c, g)
	for k := range 60 {
		putNodes(t, v, 5, k, 60, pairsText(piecePair(2, k, "x")))
	}
	checkReport(t, c, g, fsck.Report{Gen: 5, Nodes: 1, Wrong: 61}) // a root that was missing, and pieces of no file
	checkShown(t, c, g, 6, []api.Pair{rootPair})
}

// TestGreatestComplete: it is used, and no greater one that is not complete.
func TestGreatestComplete(t *testing.T) {
	v, c := newVolume(t)
	for _, gen := range []int{0, 7, 300, 2, 9} {
		putNodes(t, v, gen, 0, 1, pagesOf(someFile(strings.Repeat("x", gen+1)))...)
	}
	putNodes(t, v, 301, 0, 2)
	putNodes(t, v, 302, 1, 2)
	checkReport(t, c, usual, fsck.Report{Gen: 300, Nodes: 3 + 5})
	checkShown(t, c, usual, 303, someFile(strings.Repeat("x", 301)))

	v, c = newVolume(t)
	putNodes(t, v, 0, 0, 1, pairsText(someFile("abc")...))
	putLog(t, v, 0, []node.Node{{Key: someFile("x")[3].Key, Value: someFile("xyz")[3].Value, Last: true}})
	checkReport(t, c, usual, fsck.Report{Gen: 0, Groups: 1, Nodes: 4})
	checkShown(t, c, usual, 1, someFile("xyz"))
}

// TestNextGeneration is greater than those of all blocks and masters, but for blocks that have too great ones.
func TestNextGeneration(t *testing.T) {
	const most = 1<<31 - 1
	for id, want := range map[int]int{
		3: 6, 5 * 256: 6, 6*256 - 1: 6, 6 * 256: 7, 7*256 - 1: 7, 400*256 + 3: 401, 400*256 + 255: 401,
		(most-1)*256 + 255: most, (most + 1) * 256: 6, (most+1)*256 + 102: 6, api.MaxNumber: 6,
	} {
		v, c := laid(t, someFile("abc"))
		ok(t, v.Change(id, false, "x"))
		checkReport(t, c, usual, fsck.Report{Gen: 5, Nodes: 4})
		checkShown(t, c, usual, want, someFile("abc"))
	}
	for gen, want := range map[int]int{0: 6, 4: 6, 5: 6, 6: 7, 5000: 5001, most - 1: most} {
		for id := range 2 {
			v, c := laid(t, someFile("abc"))
			ok(t, v.Change(id, true, labelText('S', gen, 1, 1)))
			checkReport(t, c, usual, fsck.Report{Gen: 5, Nodes: 4})
			checkShown(t, c, usual, want, someFile("abc"))
		}
	}
	for what, pages := range map[string][]string{
		"another kind": {labelText('M', 50, 1, 1)}, "no label": {"x"}, "no page": {}, "two pages": {labelText('S', 50, 1, 1), ""},
	} {
		t.Log(what)
		v, c := laid(t, someFile("abc"))
		ok(t, v.Change(1, true, pages...))
		checkReport(t, c, usual, fsck.Report{Gen: 5, Nodes: 4})
		checkShown(t, c, usual, 6, someFile("abc"))
	}
}

// TestNoNextGeneration: what Lay tells of it, and everything is as it was.
func TestNoNextGeneration(t *testing.T) {
	v, c := laid(t, someFile("abc"))
	ok(t, v.Change((1<<31-1)*256+102, false, "x"))
	changes := c.Changes()
	checkError(t, c, usual, api.ErrArg)
	if c.Changes() != changes {
		t.Error("a Check that told an error changed the chip")
	}
	checkRead(t, c, "/f", "abc")
	for _, gen := range []int{1<<31 - 1, 1 << 31, api.MaxNumber} {
		v, c := laid(t, someFile("abc"))
		ok(t, v.Change(1, true, labelText('S', gen, 1, 1)))
		checkError(t, c, usual, api.ErrArg)
		ok(t, v.Change(1, true, "x"))
		checkReport(t, c, usual, fsck.Report{Gen: 5, Nodes: 4})
		checkShown(t, c, usual, 6, someFile("abc"))
	}
	v, c = newVolume(t) // no journal has such a generation
	putNodes(t, v, 1<<31+1, 0, 1, pairsText(someFile("abc")...))
	putNodes(t, v, 5, 0, 1, pairsText(someFile("xyz")...))
	checkError(t, c, usual, api.ErrArg)
}

// TestNodesThatCantBeRead: those of the greatest complete generation.
func TestNodesThatCantBeRead(t *testing.T) {
	file := someFile("abc")
	whole := pairsText(file...)
	gone := nodeText(node.Node{Key: file[3].Key, Gone: true})
	for what, page := range map[string]string{
		"no node": "x", "a torn node": pairsText(file[0]) + "N", "a wrong sum": whole[:len(whole)-1] + "x",
		"a gone node": gone, "a gone node behind others": pairsText(file[0]) + gone,
	} {
		for _, pages := range [][]string{{page}, {"", page}, {page, whole}, {whole, "", page}} {
			t.Log(what, len(pages))
			v, c := newVolume(t)
			putNodes(t, v, 5, 0, 2, whole)
			putNodes(t, v, 5, 1, 2, pages...)
			putNodes(t, v, 4, 0, 1, whole)
			changes := c.Changes()
			checkError(t, c, usual, api.ErrIO)
			if c.Changes() != changes {
				t.Error("a Check that told an error changed the chip")
			}
			ok(t, v.Unmap(nodes5))
			checkReport(t, c, usual, fsck.Report{Gen: 4, Nodes: 4})
		}
	}
	v, c := newVolume(t)
	putNodes(t, v, 5, 0, 1, whole, "", whole)
	lose(t, c, nodes5, 2, 6)
	checkReport(t, c, usual, fsck.Report{Gen: 5, Nodes: 4})
	v, c = newVolume(t)
	putNodes(t, v, 5, 0, 1, whole, whole, "", "", whole)
	lose(t, c, nodes5, 3, 6)
	checkError(t, c, usual, api.ErrIO)
	// The least one of several may be of any kind.
	v, c = newVolume(t)
	putNodes(t, v, 4, 0, 1, "x", gone)
	putNodes(t, v, 5, 0, 1, whole)
	checkReport(t, c, usual, fsck.Report{Gen: 5, Nodes: 4})
}

// TestJournalThatCantBeRead: what Replay tells of it.
func TestJournalThatCantBeRead(t *testing.T) {
	v, c := laid(t, someFile("abc"))
	ok(t, v.Change(journal5, true, labelText('J', 5, 0, 0), "x", ""))
	changes := c.Changes()
	checkError(t, c, usual, api.ErrIO)
	if c.Changes() != changes {
		t.Error("a Check that told an error changed the chip")
	}
	ok(t, v.Change(journal5, true, labelText('J', 5, 0, 0), "x")) // the last page may be torn
	checkReport(t, c, usual, fsck.Report{Gen: 5, Nodes: 4})
}

// TestJournal: its groups are applied in their order, and those of other generations are not.
func TestJournal(t *testing.T) {
	v, c := laid(t, someFile(strings.Repeat("x", 200)))
	put := func(p api.Pair, last bool) node.Node { return node.Node{Key: p.Key, Value: p.Value, Last: last} }
	shorter := someFile(strings.Repeat("x", 100))
	putLog(t, v, 5,
		[]node.Node{put(inodePair(2, node.Inode{Links: 1, Size: 100}), true)}, // and pieces 2 and 3 go
		[]node.Node{put(entryPair(1, "g", 3), false), put(inodePair(3, node.Inode{Links: 1, Size: 9}), true)},
		[]node.Node{{Key: entryPair(1, "g", 3).Key, Gone: true}, {Key: inodePair(3, node.Inode{}).Key, Gone: true, Last: true}},
		[]node.Node{put(shorter[4], true)},
	)
	putLog(t, v, 6, []node.Node{{Key: rootPair.Key, Gone: true, Last: true}})
	putLog(t, v, 4, []node.Node{{Key: rootPair.Key, Gone: true, Last: true}})
	checkReport(t, c, usual, fsck.Report{Gen: 5, Groups: 4, Nodes: 5})
	checkShown(t, c, usual, 7, shorter)
}

// TestOrderOfNodes: of several with one key the last one counts, and it is no correction.
func TestOrderOfNodes(t *testing.T) {
	old, file := someFile("abcdef"), someFile("xyz")
	last := nodeText(node.Node{Seq: 9, Key: file[2].Key, Value: file[2].Value, Last: true})
	v, c := newVolume(t)
	putNodes(t, v, 5, 0, 2, pairsText(old[3], old[2], old[1]), pairsText(old[2], old[0]))
	putNodes(t, v, 5, 1, 2, pairsText(file[3]), last, pairsText(old[0]))
	checkReport(t, c, usual, fsck.Report{Gen: 5, Nodes: 4})
	checkShown(t, c, usual, 6, file)
}

// TestEmptyGeneration: it becomes one with a root.
func TestEmptyGeneration(t *testing.T) {
	v, c := newVolume(t)
	putNodes(t, v, 5, 0, 1)
	checkReport(t, c, usual, fsck.Report{Gen: 5, Nodes: 1, Wrong: 1})
	checkShown(t, c, usual, 6, []api.Pair{rootPair})
}

// TestCorrections: what is no part of a file system is left out, and counted.
func TestCorrections(t *testing.T) {
	file := someFile(strings.Repeat("x", 100))
	root, name, inode, first, second := file[0], file[1], file[2], file[3], file[4]
	bare := []api.Pair{root, name, inode}
	with := func(pairs []api.Pair, more ...api.Pair) []api.Pair { return append(slices.Clone(pairs), more...) }
	for what, x := range map[string]struct {
		pairs, want []api.Pair
		wrong       int
	}{
		"nothing":                  {file, file, 0},
		"no root":                  {file[1:], file, 1},
		"a root that is a file":    {with(file[1:], inodePair(1, node.Inode{Links: 1})), file, 1},
		"no key":                   {with(file, api.Pair{Key: "x", Value: "y"}), file, 1},
		"a long key":               {with(file, api.Pair{Key: first.Key + "x", Value: first.Value}), file, 1},
		"no value":                 {with(file, api.Pair{Key: entryPair(1, "g", 3).Key}), file, 1},
		"a name of nothing":        {with(file, entryPair(1, "g", 3)), file, 1},
		"a file without a name":    {with(file, inodePair(3, node.Inode{Links: 1})), file, 1},
		"a name that is no part":   {with(file, entryPair(1, ".", 2)), file, 1},
		"links and a size":         {[]api.Pair{inodePair(1, node.Inode{Dir: true, Links: 7, Size: 9}), name, inodePair(2, node.Inode{Links: 3, Size: 100}), first, second}, file, 2},
		"too great a size":         {[]api.Pair{root, name, inodePair(2, node.Inode{Links: 1, Size: 9000}), piecePair(2, 128, "x")}, []api.Pair{root, name, inodePair(2, node.Inode{Links: 1, Size: 8192})}, 2},
		"a piece of no file":       {with(file, piecePair(3, 0, "x")), file, 1},
		"a piece of a lost file":   {with(file, inodePair(3, node.Inode{Links: 1, Size: 99}), piecePair(3, 0, "x"), piecePair(3, 1, "x")), file, 3},
		"a piece of a directory":   {with(file, piecePair(1, 0, "x")), file, 1},
		"a piece behind the end":   {with(file, piecePair(2, 2, "x")), file, 1},
		"a piece at the end":       {with(someFile(strings.Repeat("x", 128)), piecePair(2, 2, "x")), someFile(strings.Repeat("x", 128)), 1},
		"a piece far behind":       {with(file, piecePair(2, 1<<32-1, "x")), file, 1},
		"no piece":                 {with(bare, second), []api.Pair{root, name, inode, second}, 0},
		"a piece of no bytes":      {with(bare, api.Pair{Key: first.Key, Value: "\x00"}, second), []api.Pair{root, name, inode, second}, 1},
		"a piece without a value":  {with(bare, api.Pair{Key: first.Key}, second), []api.Pair{root, name, inode, second}, 1},
		"a piece that is too long": {with(bare, api.Pair{Key: first.Key, Value: "\x00" + strings.Repeat("x", 65)}, second), []api.Pair{root, name, inode, second}, 1},
		"a piece of no text":       {with(bare, api.Pair{Key: first.Key, Value: "\x02x"}, second), []api.Pair{root, name, inode, second}, 1},
		"all pieces":               {with(bare, api.Pair{Key: first.Key, Value: "\x02x"}, api.Pair{Key: second.Key}, piecePair(2, 3, "x")), bare, 3},
	} {
		t.Log(what)
		v, c := newVolume(t)
		putNodes(t, v, 5, 0, 1, pagesOf(x.pairs)...)
		checkReport(t, c, usual, fsck.Report{Gen: 5, Nodes: len(x.want), Wrong: x.wrong})
		checkShown(t, c, usual, 6, x.want)
		checkReport(t, c, usual, fsck.Report{Gen: 6, Nodes: len(x.want)})
	}
}

// pagesOf: a page for each pair, or none.
func pagesOf(pairs []api.Pair) []string {
	var pages []string
	for _, p := range pairs {
		pages = append(pages, pairsText(p))
	}
	return pages
}

// TestPiecesAreKeptAsTheyAre: with bytes behind the file's end, or 00 at theirs.
func TestPiecesAreKeptAsTheyAre(t *testing.T) {
	full := api.Pair{Key: piecePair(2, 0, "x").Key, Value: "\x00" + strings.Repeat("x", 64)}
	zeros := api.Pair{Key: piecePair(2, 1, "x").Key, Value: "\x00y\x00\x00"}
	pairs := []api.Pair{rootPair, entryPair(1, "f", 2), inodePair(2, node.Inode{Links: 1, Size: 70}), full, zeros}
	v, c := newVolume(t)
	putNodes(t, v, 5, 0, 1, pagesOf(pairs)...)
	checkReport(t, c, usual, fsck.Report{Gen: 5, Nodes: 5})
	all := ""
	v = attached(t, c, usual)
	for n := range 11 {
		payload, _ := v.Read(6*256+102, n+1)
		all += strings.TrimRight(payload, "\x00")
	}
	for _, p := range pairs {
		if !strings.Contains(all, p.Key+p.Value) {
			t.Errorf("%q is not there", p)
		}
	}
	checkRead(t, c, "/f", strings.Repeat("x", 64)+"y"+strings.Repeat("\x00", 5))

	pairs[2] = inodePair(2, node.Inode{Links: 1, Size: 10})
	v, c = newVolume(t)
	putNodes(t, v, 5, 0, 1, pagesOf(pairs[:4])...)
	checkReport(t, c, usual, fsck.Report{Gen: 5, Nodes: 4})
	f := mounted(t, c, usual)
	ok(t, f.Truncate("/f", 20))
	if data, err := f.Read("/f", 0, 99); data != strings.Repeat("x", 10)+strings.Repeat("\x00", 10) || err != api.OK {
		t.Errorf("Read is %q, %d", data, err)
	}
}

// TestManyCorrections: names of one directory, and others that can't be reached.
func TestManyCorrections(t *testing.T) {
	dir := node.Inode{Dir: true, Links: 1}
	pairs := []api.Pair{
		rootPair, entryPair(1, "a", 2), inodePair(2, dir), entryPair(2, "b", 2), entryPair(2, "c", 1),
		inodePair(3, dir), entryPair(3, "d", 4), inodePair(4, dir), entryPair(4, "e", 3), entryPair(2, "f", 5), inodePair(5, node.Inode{Links: 2, Size: 3}), piecePair(5, 0, "abc"), piecePair(4, 0, "abc"),
	}
	v, c := newVolume(t)
	putNodes(t, v, 5, 0, 2, pagesOf(pairs[:6])...)
	putNodes(t, v, 5, 1, 2, pagesOf(pairs[6:])...)
	checkReport(t, c, usual, fsck.Report{Gen: 5, Nodes: 6, Wrong: 2 + 4 + 1 + 1})
	checkShown(t, c, usual, 6, []api.Pair{
		rootPair, entryPair(1, "a", 2), inodePair(2, dir), entryPair(2, "f", 5), inodePair(5, node.Inode{Links: 1, Size: 3}), piecePair(5, 0, "abc"),
	})
}
