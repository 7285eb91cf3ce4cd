package fsck_test

import (
	"fmt"
	"math/rand"
	"slices"
	"strings"
	"testing"

	"chert/api"
	"chert/fs"
	"chert/fsck"
	"chert/nand"
	"chert/node"
	"chert/wear"
)

// logOfOneFile: a group that makes an empty file /g.
var logOfOneFile = []node.Node{
	{Key: entryPair(1, "g", 3).Key, Value: entryPair(1, "g", 3).Value},
	{Key: inodePair(3, node.Inode{}).Key, Value: node.PutInode(node.Inode{Links: 1}), Last: true},
}

// fill makes files till nothing fits any more.
func fill(t *testing.T, random *rand.Rand, f *fs.FS) {
	t.Helper()
	for i := range 1000 {
		path := fmt.Sprint("/", i)
		data := anyData(random)
		for _, err := range []api.Errno{f.Create(path), f.Write(path, random.Intn(7000), data)} {
			if err == api.ErrNoSpace {
				return
			}
			ok(t, err)
		}
	}
	t.Fatal("the file system is never full")
}

// TestFullChip: there is always room, at whatever change everything is rewritten, and whatever lies in the blocks of the index.
func TestFullChip(t *testing.T) {
	for seed, g := range geometries {
		t.Run(fmt.Sprint(g), func(t *testing.T) {
			t.Parallel()
			for n := 1; cutFullChip(t, seed, g, n); n++ {
			}
		})
	}
}

// cutFullChip tells whether the power went off before everything was rewritten.
func cutFullChip(t *testing.T, seed int, g api.Geometry, n int) bool {
	t.Helper()
	f, c := formatted(t, g)
	fill(t, rand.New(rand.NewSource(int64(seed))), f)
	ok(t, f.Unmount())
	f = mounted(t, c, g)
	for i := 0; journalBlocks(t, c, g) < planOf(t, g).Journal; i++ {
		if err := f.Truncate("/0", i%2); err != api.ErrNoSpace {
			ok(t, err)
		}
		ok(t, f.Sync())
	}
	want := told(pairsOf(t, f))
	c.Cut(n, 2)
	err := f.Unmount()
	c.On()
	if n%2 == 0 {
		fillIndex(t, c, g)
	}
	for cut := range 4 {
		c.Cut(1+cut*7+n%8, n%5)
		fsck.Check(c, g)
		c.On()
	}
	if report, err := fsck.Check(c, g); err != api.OK || report.Wrong != 0 {
		t.Fatalf("change %d: Check is %v, %d", n, report, err)
	}
	changes := c.Changes()
	if got := told(pairsOf(t, mounted(t, c, g))); got != want {
		t.Fatalf("change %d: Mount shows\n%s\nand not\n%s", n, got, want)
	}
	if c.Changes() != changes {
		t.Fatal("Mount had something to do")
	}
	return err != api.OK
}

// fillIndex lays blocks of an index on all that is free.
func fillIndex(t *testing.T, c *nand.Chip, g api.Geometry) {
	t.Helper()
	v := attached(t, c, g)
	gen := slices.Max(v.IDs()) / 256
	for k := range 54 {
		if err := v.Change(gen*256+202+k, false, "x"); err != api.OK {
			check(t, "Change", err, api.ErrFull)
		}
	}
}

func journalBlocks(t *testing.T, c *nand.Chip, g api.Geometry) int {
	t.Helper()
	n := 0
	for _, id := range attached(t, c, g).IDs() {
		if k := id % 256; k >= 2 && k < 102 {
			n++
		}
	}
	return n
}

// TestWhatDoesNotFit: Lay tells it, and everything is as it was.
func TestWhatDoesNotFit(t *testing.T) {
	v, c := laid(t, someFile("abc"))
	// So many that they fit as they are, but not with the names that they need not have.
	var pages []string
	for i := range 99 {
		pages = append(pages, pairsText(piecePair(2, i, "x"), entryPair(1, fmt.Sprint("name ", i), 2)))
	}
	putNodes(t, v, 7, 0, 9, append(slices.Clone(pages[:10]), pairsText(rootPair, inodePair(2, node.Inode{Links: 99, Size: 8000})))...)
	for k := range 8 {
		putNodes(t, v, 7, 1+k, 9, pages[10+11*k:21+11*k]...)
	}
	for id := 4000; v.Change(id, false, "x") == api.OK; id++ { // till no block is free
	}
	ids, changes := v.IDs(), c.Changes()
	checkError(t, c, usual, api.ErrFull)
	if !slices.Equal(attached(t, c, usual).IDs(), ids) || c.Changes() != changes {
		t.Error("a Check that told an error changed the chip")
	}
	checkRead(t, c, "/f", "abc")
}

// wearFree wears the free blocks, but for so many.
func wearFree(c *nand.Chip, blocks []wear.Block, but int) {
	for b, block := range blocks {
		if !block.Used {
			if but--; but < 0 {
				c.Wear(b)
			}
		}
	}
}

// TestFewBlocks: as long as there is one for each that is needed, in place of those that are not.
func TestFewBlocks(t *testing.T) {
	for free := range 4 {
		v, c := laid(t, someFile("abc"))
		wearFree(c, v.Blocks(), free)
		checkReport(t, c, usual, fsck.Report{Gen: 5, Nodes: 4})
		checkShown(t, c, usual, 6, someFile("abc"))

		v, c = laid(t, someFile("abc"))
		for id := range 3 { // which nobody needs
			ok(t, v.Change(9000+256*id, false, "x"))
		}
		wearFree(c, v.Blocks(), free)
		checkReport(t, c, usual, fsck.Report{Gen: 5, Nodes: 4})
		checkShown(t, c, usual, 9000/256+3, someFile("abc"))
	}
}

// TestTooFewBlocks: if they are worn, what could be mounted before can be mounted still.
func TestTooFewBlocks(t *testing.T) {
	many := rand.New(rand.NewSource(1))
	f, c := formatted(t, usual)
	fill(t, many, f)
	ok(t, f.Unmount())
	want := told(pairsOf(t, mounted(t, c, usual)))
	wearFree(c, f.Blocks(), 0)
	ids := attached(t, c, usual).IDs()
	checkError(t, c, usual, api.ErrFull)
	if got := attached(t, c, usual).IDs(); !slices.Equal(got, ids) {
		t.Fatalf("the blocks are %v, not %v", got, ids)
	}
	if got := told(pairsOf(t, mounted(t, c, usual))); got != want {
		t.Fatalf("Mount shows\n%s\nand not\n%s", got, want)
	}
	for b := range usual.Blocks {
		c.Wear(b)
	}
	checkError(t, c, usual, api.ErrFull)
	if got := told(pairsOf(t, mounted(t, c, usual))); got != want {
		t.Fatalf("Mount shows\n%s\nand not\n%s", got, want)
	}
}

// TestWornBlocks: with one of those worn that would have to go, there are too few, and with one that is of no use to anybody, there are not.
func TestWornBlocks(t *testing.T) {
	for _, worn := range [][]int{{1}, {1, nodes5}, {index5}, {1, index5}, {1, nodes5, index5}} {
		for _, more := range []int{0, 1, 2} {
			v, c := laid(t, someFile("abc"))
			for id := range more {
				ok(t, v.Change(1000+256*id, false, "x"))
			}
			wearFree(c, v.Blocks(), 0)
			for _, id := range worn {
				c.Wear(find(t, c, usual, id))
			}
			good := 3 + more - len(slices.DeleteFunc(slices.Clone(worn), func(id int) bool { return id == nodes5 }))
			if good >= 3 {
				checkReport(t, c, usual, fsck.Report{Gen: 5, Nodes: 4})
			} else {
				checkError(t, c, usual, api.ErrFull)
			}
			checkRead(t, c, "/f", "abc")
		}
	}
}

// TestNoTurn: a turn that is the last one ends it, and what is there stays.
func TestNoTurn(t *testing.T) {
	v, c := laid(t, someFile("abc"))
	lastTurn(t, c, 9)
	checkError(t, c, usual, api.ErrFull)
	checkRead(t, c, "/f", "abc")
	if got := attached(t, c, usual).IDs(); !slices.Equal(got, v.IDs()) {
		t.Fatalf("the blocks are %v", got)
	}
}

// TestWornBlocksOfOldGenerations: they come back, and nothing is made of them.
func TestWornBlocksOfOldGenerations(t *testing.T) {
	for _, worn := range [][]int{{nodes5}, {nodes5, index5}, {0}, {1}, {0, 1}, {0, 1, nodes5, index5, journal5}, {journal5}} {
		v, c := laid(t, someFile(strings.Repeat("x", 100)))
		putLog(t, v, 5, logOfOneFile)
		for _, id := range worn {
			c.Wear(find(t, c, usual, id))
		}
		for gen := 5; gen < 8; gen++ {
			report, err := fsck.Check(c, usual)
			if err != api.OK || report.Gen != gen || report.Nodes != 7 || report.Wrong != 0 {
				t.Fatalf("Check is %v, %d", report, err)
			}
			if pairs := pairsOf(t, mounted(t, c, usual)); len(pairs) != 7 {
				t.Fatalf("Mount shows\n%s", told(pairs))
			}
		}
	}
}
