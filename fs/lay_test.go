package fs_test

import (
	"fmt"
	"math"
	"math/rand"
	"slices"
	"strings"
	"testing"

	"chert/api"
	"chert/btree"
	"chert/fs"
	"chert/index"
	"chert/journal"
	"chert/leb"
	"chert/nand"
	"chert/node"
	"chert/pack"
	"chert/page"
	"chert/wear"
)

// lose spoils pages of the block of the chip that a logical block lies on.
func lose(t *testing.T, c *nand.Chip, id int, pages ...int) {
	t.Helper()
	b, _ := find(t, c, usual, id)
	for _, p := range pages {
		c.Spoil(b, p)
	}
}

// find: the block of the chip that a logical block lies on, and the last byte of its label.
func find(t *testing.T, c *nand.Chip, g api.Geometry, id int) (int, byte) {
	t.Helper()
	pager, err := page.New(c, g)
	check(t, "New", err, api.OK)
	for b := range g.Blocks {
		found, err := pager.Read(b, 0)
		check(t, "Read", err, api.OK)
		if found.State != page.Good || found.Payload[0] != 'L' {
			continue
		}
		n := 0
		for _, digit := range []byte(found.Payload[1:9]) {
			n = n<<8 | int(digit)
		}
		if n == id {
			return b, found.Payload[17]
		}
	}
	t.Fatalf("there is no block %d", id)
	return 0, 0
}

// The last bytes of leb's labels, of blocks that Change wrote.
const (
	changed       = 2
	changedSingle = 3
)

// checkGeneration: the chip holds these pairs as its only generation, as the chapter lays it; with the word "journal", a journal too. It tells the generation.
func checkGeneration(t *testing.T, c *nand.Chip, g api.Geometry, pairs []api.Pair, more ...string) int {
	t.Helper()
	v, room := attached(t, c, g), planOf(t, g).Room
	first, err := v.Read(0, 0)
	check(t, "Read of the first master", err, api.OK)
	second, _ := v.Read(1, 0)
	master, valid := node.GetLabel(first)
	if !valid || first != second || master.Kind != 'S' {
		t.Fatalf("the masters are %q and %q", first, second)
	}
	gen := master.Gen
	nodes, places := nodePages(planOf(t, g).Bytes, pairs)
	checkBlocks(t, v, 'M', gen, gen*256+102, nodes, room)
	var locations btree.Tree
	for i, p := range pairs {
		id, n := gen*256+102+places[i][0]/room, 1+places[i][0]%room
		locations.Set(p.Key, string([]byte{byte(id >> 56), byte(id >> 48), byte(id >> 40), byte(id >> 32), byte(id >> 24), byte(id >> 16), byte(id >> 8), byte(id), 0, byte(n), byte(places[i][1] >> 8), byte(places[i][1])}))
	}
	stored, err := index.Store(&locations, planOf(t, g).Bytes)
	check(t, "Store", err, api.OK)
	checkBlocks(t, v, 'I', gen, gen*256+202, stored, room)
	if master.Number != len(stored) || master.Total != (len(nodes)+room-1)/room {
		t.Fatalf("the master says %v of %d pages of nodes and %d of the index", master, len(nodes), len(stored))
	}
	checkIDs(t, v, c, g, master, (len(stored)+room-1)/room, len(more) > 0)
	return gen
}

// nodePages: the pages of a generation's nodes, and the page and the place in it of each.
func nodePages(size int, pairs []api.Pair) ([]string, [][2]int) {
	var pages []string
	var places [][2]int
	for _, p := range pairs {
		text := text(node.Node{Key: p.Key, Value: p.Value})
		if len(pages) == 0 || len(pages[len(pages)-1])+len(text) > size {
			pages = append(pages, "")
		}
		last := len(pages) - 1
		places = append(places, [2]int{last, len(pages[last])})
		pages[last] += text
	}
	return pages, places
}

// checkBlocks: the blocks of a kind hold these pages behind their labels, but for the numbers of the nodes.
func checkBlocks(t *testing.T, v *leb.Volume, kind byte, gen, id int, pages []string, room int) {
	t.Helper()
	total := (len(pages) + room - 1) / room
	for k := range total {
		want := append([]string{labelOf(kind, gen, k, total)}, pages[k*room:min((k+1)*room, len(pages))]...)
		if n, _ := v.Count(id + k); n != len(want) {
			t.Fatalf("%c %d has %d pages, not %d", kind, k, n, len(want))
		}
		for n, page := range want {
			got, err := v.Read(id+k, n)
			check(t, "Read", err, api.OK)
			if kind == 'M' && n > 0 {
				got, page = withoutSeq(t, got), withoutSeq(t, page)
			}
			if strings.TrimRight(got, "\x00") != strings.TrimRight(page, "\x00") {
				t.Fatalf("page %d of %c %d is\n%q, not\n%q", n, kind, k, got, page)
			}
		}
	}
}

func withoutSeq(t *testing.T, page string) string {
	t.Helper()
	nodes, _, err := pack.Unpack(page)
	check(t, "Unpack", err, api.OK)
	all := ""
	for _, n := range nodes {
		n.Seq = 0
		all += text(n)
	}
	return all
}

// checkIDs: there are just the blocks that there should be, in the modes that they should have.
func checkIDs(t *testing.T, v *leb.Volume, c *nand.Chip, g api.Geometry, master node.Label, indexBlocks int, hasJournal bool) {
	t.Helper()
	want := map[int]byte{0: changedSingle, 1: changedSingle}
	for k := range master.Total {
		want[master.Gen*256+102+k] = changed
	}
	for k := range indexBlocks {
		want[master.Gen*256+202+k] = changed
	}
	for _, id := range v.IDs() {
		flags, expected := want[id]
		if !expected && hasJournal && id >= master.Gen*256+2 && id < master.Gen*256+102 {
			continue
		}
		if _, found := find(t, c, g, id); !expected || found != flags {
			t.Fatalf("block %d exists, with %d", id, found)
		}
		delete(want, id)
	}
	if len(want) > 0 {
		t.Fatalf("blocks are missing: %v", want)
	}
}

// manyPairs: as many as fit.
func manyPairs(t *testing.T, random *rand.Rand, g api.Geometry) []api.Pair {
	t.Helper()
	var pairs []api.Pair
	for fits(planOf(t, g), pairs) {
		for range 1 + random.Intn(5) {
			pairs = append(pairs, piecePair(2, len(pairs), anyData(random, 64)))
		}
	}
	for !fits(planOf(t, g), pairs) {
		pairs = pairs[:len(pairs)-1]
	}
	return pairs
}

func TestLay(t *testing.T) {
	for seed, g := range geometries {
		c := newChip(t, g)
		v := attached(t, c, g)
		random := rand.New(rand.NewSource(int64(seed)))
		for i, gen := range []int{0, 1, 5, 1<<31 - 1, 3, 3, 70000} {
			pairs := manyPairs(t, random, g)
			pairs = pairs[:len(pairs)*(7-i)/7]
			check(t, "Lay", fs.Lay(v, g, gen, pairs), api.OK)
			if got := checkGeneration(t, c, g, pairs); got != gen {
				t.Fatalf("the generation is %d, not %d", got, gen)
			}
		}
		check(t, "Lay", fs.Lay(v, g, 9, nil), api.OK)
		checkGeneration(t, c, g, nil)
	}
}

// TestLayRemovesItsJournal: a generation that had one has none any more.
func TestLayRemovesItsJournal(t *testing.T) {
	v, c := laid(t, someFile("abc"))
	logged(t, v, []node.Node{{Key: someFile("")[2].Key, Gone: true, Last: true}})
	check(t, "Lay", fs.Lay(v, usual, 5, someFile("xyz")), api.OK)
	checkGeneration(t, c, usual, someFile("xyz"))
	checkRead(t, mounted(t, c, usual), "/f", 0, 9, "xyz", api.OK)
}

func TestLayOfWhatIsWrong(t *testing.T) {
	v, c := laid(t, someFile("abc"))
	changes := c.Changes()
	few := usual
	few.Blocks = 11
	file := someFile("abc")
	long := strings.Repeat("v", 200)
	for i, err := range []api.Errno{
		fs.Lay(nil, usual, 6, file), fs.Lay(v, few, 6, file), fs.Lay(v, api.Geometry{}, 6, file),
		fs.Lay(v, usual, -1, file), fs.Lay(v, usual, 1<<31, file), fs.Lay(v, usual, math.MinInt, file), fs.Lay(v, usual, math.MaxInt, file),
		fs.Lay(v, usual, 6, []api.Pair{file[1], file[0]}), fs.Lay(v, usual, 6, []api.Pair{file[0], file[0]}),
		fs.Lay(v, usual, 6, []api.Pair{{}}), fs.Lay(v, usual, 6, []api.Pair{{Key: strings.Repeat("k", 65)}}), fs.Lay(v, usual, 6, []api.Pair{{Key: "k", Value: long + "v"}}),
		fs.Lay(v, usual, 6, []api.Pair{{Key: strings.Repeat("k", 33), Value: long}}), // 250 bytes in all
	} {
		if err != api.ErrArg {
			t.Errorf("Lay %d is %d", i, err)
		}
	}
	var many []api.Pair
	for i := range 300 {
		many = append(many, api.Pair{Key: fmt.Sprintf("%04d", i), Value: long})
	}
	check(t, "Lay of much", fs.Lay(v, usual, 6, many), api.ErrFull)
	check(t, "Lay of what is wrong too", fs.Lay(v, usual, 6, append(many, many[0])), api.ErrArg)
	if c.Changes() != changes {
		t.Error("a Lay that told an error changed the chip")
	}
	check(t, "Lay of a long node", fs.Lay(v, usual, 6, []api.Pair{{Key: strings.Repeat("k", 32), Value: long}}), api.OK)
	checkGeneration(t, c, usual, []api.Pair{{Key: strings.Repeat("k", 32), Value: long}})
}

// TestLayFitsAsSpaceSays: up to the last pair.
func TestLayFitsAsSpaceSays(t *testing.T) {
	for _, g := range geometries {
		v := attached(t, newChip(t, g), g)
		var pairs []api.Pair
		for fits(planOf(t, g), pairs) {
			pairs = append(pairs, api.Pair{Key: fmt.Sprintf("%06d", len(pairs)), Value: strings.Repeat("v", 150)})
		}
		check(t, "Lay", fs.Lay(v, g, 1, pairs[1:]), api.OK)
		check(t, "Lay", fs.Lay(v, g, 2, pairs), api.ErrFull)
		check(t, "Lay", fs.Lay(v, g, 2, pairs[:len(pairs)-1]), api.OK)
	}
}

// TestLayWithoutPower: what was there before remains, or all that is new.
func TestLayWithoutPower(t *testing.T) {
	before, after := someFile("abc"), someFile(strings.Repeat("some more ", 200))
	for mode := range 8 {
		for n := 1; ; n++ {
			v, c := laid(t, before)
			c.Cut(n, mode)
			err := fs.Lay(v, usual, 9, after)
			if err == api.OK {
				break
			}
			check(t, "Lay", err, api.ErrPower)
			check(t, "Lay", fs.Lay(v, usual, 9, after), api.ErrPower)
			c.On()
			f := mounted(t, c, usual)
			data, _ := f.Read("/f", 0, 9999)
			pairs := before
			if data != "abc" {
				pairs = after
			}
			checkGeneration(t, c, usual, pairs)
		}
	}
}

// TestLayOnWornBlocks: it takes others, and if there are too few, all is as it was.
func TestLayOnWornBlocks(t *testing.T) {
	for worn := range usual.Blocks {
		v, c := laid(t, someFile("abc"))
		for b, block := range v.Blocks() {
			if !block.Used && b < worn {
				c.Wear(b)
			}
		}
		err := fs.Lay(v, usual, 6, someFile("xyz"))
		if err == api.OK {
			checkGeneration(t, c, usual, someFile("xyz"))
			continue
		}
		check(t, "Lay", err, api.ErrFull)
		checkGeneration(t, c, usual, someFile("abc"))
		if ids := v.IDs(); !slices.Equal(ids, []int{0, 1, nodes5, index5}) {
			t.Fatalf("the blocks are %v", ids)
		}
	}
}

// wearFree wears the free blocks, but for so many.
func wearFree(c *nand.Chip, blocks []wear.Block, but int) {
	for b, block := range blocks {
		if !block.Used {
			if but--; but < 0 {
				c.Wear(b)
			}
		}
	}
}

// TestLayWhereOldBlocksAreWorn: they can't be erased, and the new generation counts nevertheless.
func TestLayWhereOldBlocksAreWorn(t *testing.T) {
	for _, worn := range [][]int{{0, 1, nodes5, index5}, {0}, {0, nodes5}, {0, index5}, {1}, {0, 1, index5}} {
		v, c := laid(t, someFile("abc"))
		wearFree(c, v.Blocks(), 3)
		for _, id := range worn {
			b, _ := find(t, c, usual, id)
			c.Wear(b)
		}
		check(t, "Lay", fs.Lay(v, usual, 6, someFile("xyz")), api.OK)
		first, err := v.Read(0, 0)
		second, _ := v.Read(1, 0)
		if label, _ := node.GetLabel(first); err != api.OK || label.Gen != 6 || first != second && len(worn) < 4 {
			t.Errorf("%v: the masters are %q and %q", worn, first, second)
		}
		checkRead(t, mounted(t, c, usual), "/f", 0, 9, "xyz", api.OK)
	}
}

// TestLayOfTheSameGeneration: its blocks are replaced one after the other.
func TestLayOfTheSameGeneration(t *testing.T) {
	v, c := laid(t, someFile("abc"))
	wearFree(c, v.Blocks(), 1)
	check(t, "Lay", fs.Lay(v, usual, 6, someFile("xyz")), api.ErrFull)
	checkGeneration(t, c, usual, someFile("abc"))
	check(t, "Lay", fs.Lay(v, usual, 5, someFile("xyz")), api.OK)
	checkGeneration(t, c, usual, someFile("xyz"))
}

// TestLayOverAStrangeJournal: it is never applied to the new nodes.
func TestLayOverAStrangeJournal(t *testing.T) {
	for n := 1; ; n++ {
		v, c := laid(t, someFile("abc"))
		j := journal.New(v, 9)
		_, err := j.Append([]node.Node{{Key: someFile("")[2].Key, Value: node.PutInode(node.Inode{Links: 1, Size: 1}), Last: true}})
		ok(t, err, j.Sync())
		c.Cut(n, 0)
		err = fs.Lay(v, usual, 9, someFile("xyz"))
		if err == api.OK {
			break
		}
		check(t, "Lay", err, api.ErrPower)
		c.On()
		if data, err := mounted(t, c, usual).Read("/f", 0, 9); err != api.OK || data != "abc" && data != "xyz" {
			t.Fatalf("change %d: Read is %q, %d", n, data, err)
		}
	}
}
