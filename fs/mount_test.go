package fs_test

import (
	"fmt"
	"slices"
	"strings"
	"testing"

	"chert/api"
	"chert/btree"
	"chert/fs"
	"chert/index"
	"chert/journal"
	"chert/key"
	"chert/leb"
	"chert/nand"
	"chert/node"
)

func TestFormatAndMountOfWhatIsWrong(t *testing.T) {
	other := usual
	other.Blocks++
	c := newChip(t, usual)
	for _, g := range []api.Geometry{
		{}, other,
		{Blocks: 14, Pages: 16, Chunks: 2, Chunk: 128, T: 3},
		{Blocks: 14, Pages: 16, Chunks: 2, Chunk: 128, T: 9},
	} {
		checkNoFormat(t, c, g, api.ErrArg)
		checkNoMount(t, c, g, api.ErrArg)
	}
	for _, g := range []api.Geometry{
		{Blocks: 11, Pages: 16, Chunks: 2, Chunk: 128, T: 2},
		{Blocks: 14, Pages: 12, Chunks: 2, Chunk: 128, T: 2},
		{Blocks: 14, Pages: 16, Chunks: 1, Chunk: 255, T: 2},
	} {
		checkNoFormat(t, newChip(t, g), g, api.ErrArg)
		checkNoMount(t, newChip(t, g), g, api.ErrArg)
	}
	checkNoFormat(t, nil, usual, api.ErrArg)
	checkNoMount(t, nil, usual, api.ErrArg)
	checkNoMount(t, c, usual, api.ErrForm)
	if c.Changes() > 0 {
		t.Error("what told an error changed the chip")
	}
	c.Cut(1, 0)
	c.Erase(0)
	checkNoFormat(t, c, usual, api.ErrPower)
	checkNoMount(t, c, usual, api.ErrPower)
}

func checkNoFormat(t *testing.T, c *nand.Chip, g api.Geometry, want api.Errno) {
	t.Helper()
	f, err := fs.Format(c, g)
	check(t, "Format", err, want)
	if f != nil {
		t.Fatal("a file system beside an error")
	}
}

func TestFormat(t *testing.T) {
	for _, g := range geometries {
		f, c := formatted(t, g)
		checkShown(t, f, newModel())
		checkUsage(t, f, 1, planOf(t, g).Capacity())
		checkUsed(t, f, 4)
		checkGeneration(t, c, g, newModel().pairs())
		ok(t, f.Mkdir("/a"), f.Create("/a/f"), f.Write("/a/f", 0, "abc"), f.Sync())
		v := attached(t, c, g)
		ok(t, v.Change(999, true, "x"), v.Change(api.MaxNumber, false), v.Map(77, true))
		for id := 1 << 20; v.Change(id, true) == api.OK; id++ { // on all blocks that there are
		}
		f, err := fs.Format(c, g)
		check(t, "Format", err, api.OK)
		checkShown(t, f, newModel())
		checkUsed(t, f, 4)
		ok(t, f.Create("/f"))
		checkStat(t, f, "/f", 2, node.Inode{Links: 1})
		checkGeneration(t, c, g, newModel().pairs(), "journal")
	}
}

func checkUsed(t *testing.T, f *fs.FS, want int) {
	t.Helper()
	used := 0
	for _, b := range f.Blocks() {
		if b.Used {
			used++
		}
	}
	if used != want {
		t.Fatalf("%d blocks are used, not %d", used, want)
	}
}

// TestFormatWithoutPower: it tells so, whenever the power goes off.
func TestFormatWithoutPower(t *testing.T) {
	for mode := range 8 {
		for n := 1; ; n++ {
			f, c := formatted(t, usual)
			ok(t, f.Create("/f"), f.Sync())
			c.Cut(n, mode)
			if _, err := fs.Format(c, usual); err == api.OK {
				break
			}
			checkNoFormat(t, c, usual, api.ErrPower)
			c.On()
			f, err := fs.Mount(c, usual)
			if err != api.OK && (f != nil || err != api.ErrForm) {
				t.Fatalf("after change %d of Format, Mount is %v, %d", n, f, err)
			}
			f, err = fs.Format(c, usual)
			check(t, "Format", err, api.OK)
			checkShown(t, f, newModel())
		}
	}
}

// TestFormatOfWornBlocks: what can't be erased must not come back.
func TestFormatOfWornBlocks(t *testing.T) {
	f, c := formatted(t, usual)
	ok(t, f.Create("/f"), f.Write("/f", 0, "abc"), f.Sync())
	for b, block := range f.Blocks() {
		if block.Used {
			c.Wear(b)
		}
	}
	f, err := fs.Format(c, usual)
	check(t, "Format", err, api.OK)
	checkShown(t, f, newModel())
	f = mounted(t, c, usual)
	checkShown(t, f, newModel())
	ok(t, f.Create("/h"), f.Sync())
	checkNames(t, mounted(t, c, usual), "/", "h")
	for b := range usual.Blocks {
		c.Wear(b)
	}
	checkNoFormat(t, c, usual, api.ErrFull)
}

// laid: a chip with a generation 5 of these pairs.
func laid(t *testing.T, pairs []api.Pair) (*leb.Volume, *nand.Chip) {
	t.Helper()
	c := newChip(t, usual)
	v := attached(t, c, usual)
	check(t, "Lay", fs.Lay(v, usual, 5, pairs), api.OK)
	return v, c
}

// The blocks of generation 5.
const (
	journal5 = 5*256 + 2
	nodes5   = 5*256 + 102
	index5   = 5*256 + 202
)

func labelOf(kind byte, gen, number, total int) string {
	text, _ := node.PutLabel(node.Label{Kind: kind, Gen: gen, Number: number, Total: total})
	return text
}

func text(n node.Node) string {
	s, _ := node.Encode(n)
	return s
}

// pageOf: a block's page, without the bytes 00 at its end.
func pageOf(v *leb.Volume, id, n int) string {
	page, _ := v.Read(id, n)
	return strings.TrimRight(page, "\x00")
}

// TestMountOfNoGeneration: what a master names has to be whole.
func TestMountOfNoGeneration(t *testing.T) {
	var v *leb.Volume
	bothMasters := func(label string) api.Errno { return max(v.Change(0, true, label), v.Change(1, true, label)) }
	m, i := labelOf('M', 5, 0, 1), labelOf('I', 5, 0, 1)
	pages := func(id int, pages ...string) func() api.Errno {
		return func() api.Errno { return v.Change(id, false, pages...) }
	}
	relabelled := func(id int, label string) func() api.Errno {
		return func() api.Errno { return v.Change(id, false, label, pageOf(v, id, 1)) }
	}
	for name, alter := range map[string]func() api.Errno{
		"no masters":             func() api.Errno { return max(v.Unmap(0), v.Unmap(1)) },
		"masters of two pages":   func() api.Errno { return max(v.Change(0, true, labelOf('S', 5, 1, 1), ""), v.Unmap(1)) },
		"masters of no page":     func() api.Errno { return max(v.Change(0, true), v.Change(1, true)) },
		"masters that are none":  func() api.Errno { return bothMasters("S") },
		"masters of a kind":      func() api.Errno { return bothMasters(labelOf('M', 5, 1, 1)) },
		"no such generation":     func() api.Errno { return bothMasters(labelOf('S', 6, 1, 1)) },
		"too great a generation": func() api.Errno { return bothMasters(labelOf('S', 1<<31, 1, 1)) },
		"no great generation":    func() api.Errno { return bothMasters(labelOf('S', 1<<31+1, 0, 0)) },
		"a greater generation":   func() api.Errno { return v.Change(1, true, labelOf('S', 6, 1, 1)) },
		"more blocks":            func() api.Errno { return bothMasters(labelOf('S', 5, 1, 2)) },
		"no blocks":              func() api.Errno { return bothMasters(labelOf('S', 5, 1, 0)) },
		"no index":               func() api.Errno { return bothMasters(labelOf('S', 5, 0, 1)) },
		"a longer index":         func() api.Errno { return bothMasters(labelOf('S', 5, 2, 1)) },
		"very many blocks":       func() api.Errno { return bothMasters(labelOf('S', 5, 1, api.MaxNumber)) },
		"a very long index":      func() api.Errno { return bothMasters(labelOf('S', 5, api.MaxNumber, 1)) },
		"nodes are gone":         func() api.Errno { return v.Unmap(nodes5) },
		"the index is gone":      func() api.Errno { return v.Unmap(index5) },
		"nodes of another kind":  relabelled(nodes5, i),
		"nodes of another one":   relabelled(nodes5, labelOf('M', 6, 0, 1)),
		"nodes with a number":    relabelled(nodes5, labelOf('M', 5, 1, 1)),
		"nodes with a total":     relabelled(nodes5, labelOf('M', 5, 0, 2)),
		"nodes without a label":  relabelled(nodes5, "x"),
		"no page of nodes":       pages(nodes5),
		"no nodes":               pages(nodes5, m),
		"no node":                pages(nodes5, m, "x"),
		"an index of a kind":     relabelled(index5, m),
		"an index of another":    relabelled(index5, labelOf('I', 4, 0, 1)),
		"an index with a number": relabelled(index5, labelOf('I', 5, 1, 1)),
		"an index with a total":  relabelled(index5, labelOf('I', 5, 0, 2)),
		"an index without label": relabelled(index5, ""),
		"no page of an index":    pages(index5),
		"an empty index":         pages(index5, i),
		"another index":          pages(index5, i, "\x00\x01\x01a\x011"),
		"too long an index":      pages(index5, append([]string{i}, slices.Repeat([]string{"x"}, 11)...)...),
		"one page more":          func() api.Errno { return v.Change(index5, false, i, pageOf(v, index5, 1), "") },
	} {
		var c *nand.Chip
		v, c = laid(t, someFile("abc"))
		if err := alter(); err != api.OK {
			t.Fatalf("%s: %d", name, err)
		}
		changes := c.Changes()
		if f, err := fs.Mount(c, usual); f != nil || err != api.ErrForm {
			t.Errorf("%s: Mount is %v, %d", name, f, err)
		}
		if c.Changes() != changes {
			t.Errorf("%s: Mount changed the chip", name)
		}
	}
}

// crafted: a chip with a generation 5 of one page of nodes, whose index is what it should be.
func crafted(t *testing.T, nodes ...node.Node) *nand.Chip {
	t.Helper()
	v, c := laid(t, nil)
	var locations btree.Tree
	page := ""
	for _, n := range nodes {
		locations.Set(n.Key, string([]byte{0, 0, 0, 0, 0, 0, nodes5 >> 8, nodes5 & 255, 0, 1, byte(len(page) >> 8), byte(len(page))}))
		page += text(n)
	}
	stored, err := index.Store(&locations, 249)
	ok(t, err, v.Change(nodes5, false, labelOf('M', 5, 0, 1), page), v.Change(index5, false, labelOf('I', 5, 0, 1), stored[0]))
	ok(t, v.Change(0, true, labelOf('S', 5, 1, 1)), v.Change(1, true, labelOf('S', 5, 1, 1)))
	return c
}

// TestMountOfWrongNodes: they are in order, and there is nothing of a journal about them.
func TestMountOfWrongNodes(t *testing.T) {
	root := node.Node{Seq: 7, Key: someFile("")[0].Key, Value: someFile("")[0].Value}
	name := node.Node{Key: someFile("")[1].Key, Value: someFile("")[1].Value}
	file := node.Node{Key: someFile("")[2].Key, Value: someFile("")[2].Value}
	last, gone := root, node.Node{Key: piecePair(2, 0, "x").Key, Gone: true}
	last.Last = true
	checkNames(t, mounted(t, crafted(t, root, name, file), usual), "/", "f")
	checkNoMount(t, crafted(t, last, name, file), usual, api.ErrForm)
	checkNoMount(t, crafted(t, root, name, file, gone), usual, api.ErrForm)
	c := crafted(t, root, name, file, gone)
	logged(t, attached(t, c, usual), []node.Node{
		{Key: file.Key, Value: someFile("abc")[2].Value}, {Key: gone.Key, Value: someFile("abc")[3].Value, Last: true},
	})
	checkNoMount(t, c, usual, api.ErrForm)
	checkNoMount(t, crafted(t, name, root, file), usual, api.ErrForm)
	checkNoMount(t, crafted(t, root, root, name, file), usual, api.ErrForm)
}

// TestMountOfAShorterIndex: the master says how long it is.
func TestMountOfAShorterIndex(t *testing.T) {
	m := newModel()
	for i := range 12 {
		m.do(call{name: "create", path: "/" + strings.Repeat("x", i+1)})
	}
	v, c := laid(t, m.pairs())
	master, _ := v.Read(0, 0)
	label, _ := node.GetLabel(master)
	if label.Number < 2 {
		t.Fatalf("the index has %d pages", label.Number)
	}
	shorter := labelOf('S', 5, label.Number-1, label.Total)
	ok(t, v.Change(0, true, shorter), v.Change(1, true, shorter))
	checkNoMount(t, c, usual, api.ErrForm)
}

// TestMountOfAnIndexInOtherBlocks: its pages fill them, but for the last.
func TestMountOfAnIndexInOtherBlocks(t *testing.T) {
	m := newModel()
	for i := range 55 {
		m.do(call{name: "create", path: fmt.Sprint("/", i)})
	}
	v, c := laid(t, m.pairs())
	var pages []string
	for _, id := range []int{index5, index5 + 1} {
		n, _ := v.Count(id)
		for page := 1; page < n; page++ {
			pages = append(pages, pageOf(v, id, page))
		}
	}
	if len(pages) < 12 {
		t.Fatalf("the index has %d pages", len(pages))
	}
	mounted(t, c, usual)
	ok(t, v.Change(index5, false, append([]string{labelOf('I', 5, 0, 2)}, pages[:10]...)...))
	ok(t, v.Change(index5+1, false, append([]string{labelOf('I', 5, 1, 2)}, pages[10:]...)...))
	checkNoMount(t, c, usual, api.ErrForm)
}

// TestMountOfNoState: pairs that are no file system's.
func TestMountOfNoState(t *testing.T) {
	file := someFile(strings.Repeat("x", 100))
	root, name, inode, first, second := file[0], file[1], file[2], file[3], file[4]
	for what, pairs := range map[string][]api.Pair{
		"nothing":                  nil,
		"no root":                  {name, inode},
		"a name of nothing":        {root, name},
		"a file without a name":    {root, inode},
		"no key":                   append(slices.Clone(file), api.Pair{Key: "x"}),
		"a strange key":            append(slices.Clone(file), api.Pair{Key: encoded(key.Key{Number: 9, Kind: key.Data}) + "x"}),
		"no value":                 {root, name, {Key: inode.Key}},
		"a piece of no file":       append(slices.Clone(file), piecePair(3, 0, "x")),
		"a piece of a directory":   {root, piecePair(1, 0, "x"), name, inode, first, second},
		"a piece behind the end":   append(slices.Clone(file), piecePair(2, 2, "x")),
		"a piece at the end":       append(someFile(strings.Repeat("x", 128)), piecePair(2, 2, "x")),
		"a piece far behind":       append(slices.Clone(file), piecePair(2, 1<<32-1, "x")),
		"a piece of no bytes":      {root, name, inode, {Key: first.Key, Value: "\x00"}, second},
		"a piece that is too long": {root, name, inode, {Key: first.Key, Value: "\x00" + strings.Repeat("x", 65)}, second},
		"a piece of no text":       {root, name, inode, {Key: first.Key, Value: "\x02x"}, second},
		"an empty piece":           {root, name, inode, {Key: first.Key}, second},
	} {
		slices.SortFunc(pairs, func(a, b api.Pair) int { return strings.Compare(a.Key, b.Key) })
		_, c := laid(t, pairs)
		if f, err := fs.Mount(c, usual); f != nil || err != api.ErrForm {
			t.Errorf("%s: Mount is %v, %d", what, f, err)
		}
	}
	_, c := laid(t, file)
	checkRead(t, mounted(t, c, usual), "/f", 0, 200, strings.Repeat("x", 100), api.OK)
}

// logged: a journal of generation 5 with these groups, each of them synced.
func logged(t *testing.T, v *leb.Volume, groups ...[]node.Node) {
	t.Helper()
	j := journal.New(v, 5)
	for _, group := range groups {
		_, err := j.Append(group)
		ok(t, err, j.Sync())
	}
}

// TestMountOfAJournal: its groups are applied, and it ends with that.
func TestMountOfAJournal(t *testing.T) {
	v, c := laid(t, someFile("abc"))
	before := someFile(strings.Repeat("x", 100))
	logged(t, v,
		[]node.Node{{Key: before[2].Key, Value: before[2].Value}, {Key: before[3].Key, Value: before[3].Value}, {Key: before[4].Key, Value: before[4].Value, Last: true}},
		[]node.Node{{Key: before[2].Key, Value: node.PutInode(node.Inode{Links: 1, Size: 64}), Last: true}},
	)
	want := strings.Repeat("x", 64)
	for range 2 {
		f := mounted(t, c, usual)
		checkRead(t, f, "/f", 0, 200, want, api.OK)
		checkUsage(t, f, 4, planOf(t, usual).Capacity())
		checkGeneration(t, c, usual, someFile(want))
	}
	v, c = laid(t, someFile("abc"))
	logged(t, v, []node.Node{{Key: before[2].Key, Gone: true, Last: true}})
	checkNoMount(t, c, usual, api.ErrForm)

	// A journal without a group is one that has been begun, too.
	v, c = laid(t, someFile("abc"))
	ok(t, v.Map(journal5, true))
	f := mounted(t, c, usual)
	checkUsed(t, f, 4)
	ok(t, f.Create("/g"), f.Sync())
	checkNames(t, mounted(t, c, usual), "/", "f", "g")
}

// TestMountOfLostPages: ErrIO, unless something worse is found.
func TestMountOfLostPages(t *testing.T) {
	group := []node.Node{{Key: someFile("abc")[2].Key, Value: someFile("abc")[2].Value, Last: true}}
	for name, alter := range map[string]func(v *leb.Volume, c *nand.Chip){
		"a page of nodes":     func(v *leb.Volume, c *nand.Chip) { lose(t, c, nodes5, 2, 15) },
		"a label of nodes":    func(v *leb.Volume, c *nand.Chip) { lose(t, c, nodes5, 1, 13) },
		"a page of the index": func(v *leb.Volume, c *nand.Chip) { lose(t, c, index5, 2, 15) },
		"a label of an index": func(v *leb.Volume, c *nand.Chip) { lose(t, c, index5, 1, 13) },
		"both masters":        func(v *leb.Volume, c *nand.Chip) { lose(t, c, 0, 1, 13); lose(t, c, 1, 1, 13) },
		"a page of a journal": func(v *leb.Volume, c *nand.Chip) { logged(t, v, group, group); lose(t, c, journal5, 4) },
	} {
		v, c := laid(t, someFile("abc"))
		alter(v, c)
		changes := c.Changes()
		if f, err := fs.Mount(c, usual); f != nil || err != api.ErrIO {
			t.Errorf("%s: Mount is %v, %d", name, f, err)
		}
		if c.Changes() != changes {
			t.Errorf("%s: Mount changed the chip", name)
		}
	}
	v, c := laid(t, someFile("abc"))
	lose(t, c, nodes5, 2, 15)
	ok(t, v.Unmap(index5))
	checkNoMount(t, c, usual, api.ErrForm)
	v, c = laid(t, someFile("abc"))
	lose(t, c, index5, 2, 15)
	ok(t, v.Change(nodes5, false, labelOf('M', 5, 0, 1), "x"))
	checkNoMount(t, c, usual, api.ErrForm)
	// One master is enough.
	_, c = laid(t, someFile("abc"))
	lose(t, c, 0, 1, 13)
	checkRead(t, mounted(t, c, usual), "/f", 0, 9, "abc", api.OK)
	checkGeneration(t, c, usual, someFile("abc"))
}

// TestMastersThatDisagree: the greater one counts, and a new generation has them agree.
func TestMastersThatDisagree(t *testing.T) {
	master5 := labelOf('S', 5, 1, 1)
	for name, masters := range map[string][2]string{
		"no first one":           {"", master5},
		"no second one":          {master5, ""},
		"the first is smaller":   {labelOf('S', 4, 9, 9), master5},
		"the second is smaller":  {master5, labelOf('S', 0, 0, 0)},
		"the first is none":      {"x", master5},
		"the second is another":  {master5, labelOf('M', 7, 1, 1)},
		"the second says others": {master5, labelOf('S', 5, 2, 1)},
	} {
		v, c := laid(t, someFile("abc"))
		for id, label := range masters {
			if label == "" {
				ok(t, v.Unmap(id))
			} else {
				ok(t, v.Change(id, true, label))
			}
		}
		f := mounted(t, c, usual)
		checkRead(t, f, "/f", 0, 9, "abc", api.OK)
		checkUsed(t, f, 4)
		if gen := checkGeneration(t, c, usual, someFile("abc")); gen <= 5 {
			t.Errorf("%s: the generation is %d after Mount", name, gen)
		}
	}
}

// TestMountLeavesAChipAlone: unless there is something to be done.
func TestMountLeavesAChipAlone(t *testing.T) {
	_, c := laid(t, someFile("abc"))
	changes := c.Changes()
	f := mounted(t, c, usual)
	ok(t, f.Sync(), f.Tick())
	checkRead(t, f, "/f", 0, 9, "abc", api.OK)
	if c.Changes() != changes {
		t.Error("Mount changed a chip on which all is well")
	}
	if gen := checkGeneration(t, c, usual, someFile("abc")); gen != 5 {
		t.Errorf("the generation is %d", gen)
	}
}

// TestMountRemovesOtherBlocks: whatever they are.
func TestMountRemovesOtherBlocks(t *testing.T) {
	for _, id := range []int{4*256 + 102, 4*256 + 2, 6*256 + 102, 6*256 + 202, 6*256 + 2, nodes5 + 1, index5 + 1, index5 + 53, 2, 102, 1 << 30, 1 << 38, api.MaxNumber} {
		v, c := laid(t, someFile("abc"))
		ok(t, v.Change(id, false, labelOf('M', id/256, 0, 1)))
		f := mounted(t, c, usual)
		checkUsed(t, f, 4)
		checkRead(t, f, "/f", 0, 9, "abc", api.OK)
		// If a block can't be erased, it comes back, and must not be taken for one of a later generation then.
		if gen := checkGeneration(t, c, usual, someFile("abc")); id/256 == 6 && gen <= 6 {
			t.Errorf("generation %d follows block %d", gen, id)
		}
		ok(t, f.Create("/g"), f.Unmount())
		checkNames(t, mounted(t, c, usual), "/", "f", "g")
	}
}

// TestNewNumbers follow those that exist from a Mount on, and those that were assigned until then.
func TestNewNumbers(t *testing.T) {
	f, c := formatted(t, usual)
	ok(t, f.Create("/a"), f.Create("/b"), f.Unlink("/b"), f.Create("/c"))
	checkStat(t, f, "/c", 4, node.Inode{Links: 1})
	check(t, "Create", f.Create("/c"), api.ErrExists)
	ok(t, f.Unlink("/c"), f.Unmount())
	f = mounted(t, c, usual)
	ok(t, f.Create("/d"))
	checkStat(t, f, "/d", 3, node.Inode{Links: 1})
}

// TestLastNumber: no number is greater.
func TestLastNumber(t *testing.T) {
	inode := node.Inode{Links: 1}
	_, c := laid(t, []api.Pair{inodePair(1, node.Inode{Dir: true, Links: 1}), entryPair(1, "f", api.MaxNumber), inodePair(api.MaxNumber, inode)})
	f := mounted(t, c, usual)
	check(t, "Create", f.Create("/g"), api.ErrFull)
	check(t, "Mkdir", f.Mkdir("/g"), api.ErrFull)
	ok(t, f.Write("/f", 0, "abc"), f.Unmount())
	checkRead(t, mounted(t, c, usual), "/f", 0, 9, "abc", api.OK)
}

// TestBytesBehindTheEnd: pieces may hold such, and they don't come to light when the file grows.
func TestBytesBehindTheEnd(t *testing.T) {
	for _, size := range []int{1, 63, 64, 65, 100, 127} {
		pairs := someFile(strings.Repeat("x", size))
		last := len(pairs) - 1
		pairs[last] = piecePair(2, (size-1)/64, strings.Repeat("x", 64))
		_, c := laid(t, pairs)
		f := mounted(t, c, usual)
		checkRead(t, f, "/f", 0, 999, strings.Repeat("x", size), api.OK)
		ok(t, f.Truncate("/f", size+5), f.Write("/f", 300, "y"), f.Sync())
		want := strings.Repeat("x", size) + strings.Repeat("\x00", 300-size) + "y"
		checkRead(t, f, "/f", 0, 999, want, api.OK)
		checkRead(t, mounted(t, c, usual), "/f", 0, 999, want, api.OK)
	}
	// Till they can be written anew, nothing is written at all.
	pairs := append(someFile("\x00\x00\x00"), piecePair(2, 0, "abcdef"))
	v, c := laid(t, pairs)
	wearFree(c, v.Blocks(), 2)
	for range 2 {
		f := mounted(t, c, usual)
		checkRead(t, f, "/f", 0, 9, "abc", api.OK)
		check(t, "Truncate", f.Truncate("/f", 9), api.ErrNoSpace)
		check(t, "Create", f.Create("/g"), api.ErrNoSpace)
		checkRead(t, f, "/f", 0, 9, "abc", api.OK)
	}
	pairs = append(someFile("\x00\x00\x00"), piecePair(2, 0, "\x00\x00\x00abc"))
	_, c = laid(t, pairs)
	f := mounted(t, c, usual)
	checkUsage(t, f, 3, planOf(t, usual).Capacity())
	ok(t, f.Truncate("/f", 9))
	checkRead(t, f, "/f", 0, 99, strings.Repeat("\x00", 9), api.OK)
}
