package fsck_test

import (
	"slices"
	"strconv"
	"strings"
	"testing"

	"chert/api"
	"chert/fs"
	"chert/fsck"
	"chert/journal"
	"chert/key"
	"chert/leb"
	"chert/lz"
	"chert/nand"
	"chert/node"
	"chert/page"
	"chert/space"
)

// usual is what most tests use: a journal of 2 blocks of 5 pages, and 4 blocks of 11 pages for a generation.
var usual = api.Geometry{Blocks: 14, Pages: 16, Chunks: 2, Chunk: 128, T: 2}

// geometries is what the broader tests go through.
var geometries = []api.Geometry{
	usual,
	{Blocks: 12, Pages: 16, Chunks: 1, Chunk: 256, T: 1},
	{Blocks: 17, Pages: 20, Chunks: 3, Chunk: 90, T: 3},
}

// The blocks of generation 5.
const (
	journal5 = 5*256 + 2
	nodes5   = 5*256 + 102
	index5   = 5*256 + 202
)

func newChip(t *testing.T, g api.Geometry) *nand.Chip {
	t.Helper()
	c, err := page.Chip(g)
	check(t, "Chip", err, api.OK)
	return c
}

func formatted(t *testing.T, g api.Geometry) (*fs.FS, *nand.Chip) {
	t.Helper()
	c := newChip(t, g)
	f, err := fs.Format(c, g)
	check(t, "Format", err, api.OK)
	return f, c
}

func mounted(t *testing.T, c *nand.Chip, g api.Geometry) *fs.FS {
	t.Helper()
	f, err := fs.Mount(c, g)
	check(t, "Mount", err, api.OK)
	return f
}

func attached(t *testing.T, c *nand.Chip, g api.Geometry) *leb.Volume {
	t.Helper()
	v, err := leb.Attach(c, g)
	check(t, "Attach", err, api.OK)
	return v
}

// newVolume: one on a new chip.
func newVolume(t *testing.T) (*leb.Volume, *nand.Chip) {
	t.Helper()
	c := newChip(t, usual)
	return attached(t, c, usual), c
}

func planOf(t *testing.T, g api.Geometry) space.Plan {
	t.Helper()
	plan, ok := space.Of(g)
	if !ok {
		t.Fatalf("%v is not sufficient", g)
	}
	return plan
}

func ok(t *testing.T, errs ...api.Errno) {
	t.Helper()
	for i, err := range errs {
		if err != api.OK {
			t.Fatalf("call %d is %d", i, err)
		}
	}
}

func check(t *testing.T, what string, got, want api.Errno) {
	t.Helper()
	if got != want {
		t.Fatalf("%s is %d, not %d", what, got, want)
	}
}

func checkReport(t *testing.T, c *nand.Chip, g api.Geometry, want fsck.Report) {
	t.Helper()
	if got, err := fsck.Check(c, g); got != want || err != api.OK {
		t.Fatalf("Check is %v, %d, not %v", got, err, want)
	}
}

// checkError: Check tells an error, and nothing beside it.
func checkError(t *testing.T, c *nand.Chip, g api.Geometry, want api.Errno) {
	t.Helper()
	if got, err := fsck.Check(c, g); got != (fsck.Report{}) || err != want {
		t.Fatalf("Check is %v, %d, not %d", got, err, want)
	}
}

func encoded(k key.Key) string {
	text, _ := key.Encode(k)
	return text
}

func inodePair(number int, i node.Inode) api.Pair {
	return api.Pair{Key: encoded(key.Key{Number: number, Kind: key.Inode}), Value: node.PutInode(i)}
}

func entryPair(directory int, name string, number int) api.Pair {
	return api.Pair{Key: encoded(key.Key{Number: directory, Kind: key.Entry, Name: name}), Value: node.PutEntry(number)}
}

func piecePair(number, k int, data string) api.Pair {
	return api.Pair{Key: encoded(key.Key{Number: number, Kind: key.Data, Piece: k}), Value: lz.Pack(data)}
}

var rootPair = inodePair(1, node.Inode{Dir: true, Links: 1})

// someFile: the pairs of a file system with a file /f of these bytes.
func someFile(data string) []api.Pair {
	pairs := []api.Pair{rootPair, entryPair(1, "f", 2), inodePair(2, node.Inode{Links: 1, Size: len(data)})}
	return append(pairs, piecesOf(2, data)...)
}

// piecesOf: those of a file of these bytes.
func piecesOf(number int, data string) []api.Pair {
	var pairs []api.Pair
	for at := 0; at < len(data); at += api.Piece {
		if piece := strings.TrimRight(data[at:min(at+api.Piece, len(data))], "\x00"); piece != "" {
			pairs = append(pairs, piecePair(number, at/api.Piece, piece))
		}
	}
	return pairs
}

// laid: a chip with a generation 5 of these pairs.
func laid(t *testing.T, pairs []api.Pair) (*leb.Volume, *nand.Chip) {
	t.Helper()
	v, c := newVolume(t)
	check(t, "Lay", fs.Lay(v, usual, 5, pairs), api.OK)
	return v, c
}

func labelText(kind byte, gen, number, total int) string {
	text, _ := node.PutLabel(node.Label{Kind: kind, Gen: gen, Number: number, Total: total})
	return text
}

func nodeText(n node.Node) string {
	text, _ := node.Encode(n)
	return text
}

// pairsText: the nodes of pairs, one behind the other.
func pairsText(pairs ...api.Pair) string {
	all := ""
	for _, p := range pairs {
		all += nodeText(node.Node{Key: p.Key, Value: p.Value})
	}
	return all
}

// putNodes writes the k-th block of a generation's nodes, with these pages.
func putNodes(t *testing.T, v *leb.Volume, gen, k, total int, pages ...string) {
	t.Helper()
	payloads := append([]string{labelText('M', gen, k, total)}, pages...)
	check(t, "Change", v.Change(gen*256+102+k, false, payloads...), api.OK)
}

// putLog writes groups into the journal of a generation.
func putLog(t *testing.T, v *leb.Volume, gen int, groups ...[]node.Node) {
	t.Helper()
	j := journal.New(v, gen)
	for _, group := range groups {
		_, err := j.Append(group)
		ok(t, err, j.Sync())
	}
}

// find: the block of the chip that a logical block lies on.
func find(t *testing.T, c *nand.Chip, g api.Geometry, id int) int {
	t.Helper()
	pager, err := page.New(c, g)
	check(t, "New", err, api.OK)
	for b := range g.Blocks {
		found, _ := pager.Read(b, 0)
		if found.State != page.Good || found.Payload[0] != 'L' {
			continue
		}
		n := 0
		for _, digit := range []byte(found.Payload[1:9]) {
			n = n<<8 | int(digit)
		}
		if n == id {
			return b
		}
	}
	t.Fatalf("there is no block %d", id)
	return 0
}

// lose spoils pages of the block of the chip that a logical block lies on.
func lose(t *testing.T, c *nand.Chip, id int, pages ...int) {
	t.Helper()
	b := find(t, c, usual, id)
	for _, p := range pages {
		c.Spoil(b, p)
	}
}

// pairsOf: the pairs of what a file system shows, in order.
func pairsOf(t *testing.T, f *fs.FS) []api.Pair {
	t.Helper()
	all := map[string]string{}
	paths := []string{"/"}
	for i := 0; i < len(paths); i++ {
		info, err := f.Stat(paths[i])
		check(t, "Stat "+paths[i], err, api.OK)
		inode := inodePair(info.Number, info.Inode)
		all[inode.Key] = inode.Value
		if !info.Dir {
			data, err := f.Read(paths[i], 0, 9000)
			check(t, "Read "+paths[i], err, api.OK)
			if len(data) != info.Size {
				t.Fatalf("%s has %d bytes, not %d", paths[i], len(data), info.Size)
			}
			for _, p := range piecesOf(info.Number, data) {
				all[p.Key] = p.Value
			}
			continue
		}
		names, err := f.Readdir(paths[i])
		check(t, "Readdir", err, api.OK)
		for _, name := range names {
			path := strings.TrimSuffix(paths[i], "/") + "/" + name
			below, err := f.Stat(path)
			check(t, "Stat "+path, err, api.OK)
			entry := entryPair(info.Number, name, below.Number)
			all[entry.Key] = entry.Value
			paths = append(paths, path)
		}
	}
	var pairs []api.Pair
	for k, value := range all {
		pairs = append(pairs, api.Pair{Key: k, Value: value})
	}
	slices.SortFunc(pairs, func(a, b api.Pair) int { return strings.Compare(a.Key, b.Key) })
	return pairs
}

// checkShown: a Mount finds a file system of these pairs, and leaves the generation and the chip as they are.
func checkShown(t *testing.T, c *nand.Chip, g api.Geometry, gen int, pairs []api.Pair) {
	t.Helper()
	changes := c.Changes()
	f := mounted(t, c, g)
	if got := pairsOf(t, f); !slices.Equal(got, pairs) {
		t.Fatalf("Mount shows\n%s\nand not\n%s", told(got), told(pairs))
	}
	checkGen(t, c, g, gen)
	if c.Changes() != changes {
		t.Fatal("Mount had something to do")
	}
}

// checkGen: both masters name this generation, and all blocks are its own.
func checkGen(t *testing.T, c *nand.Chip, g api.Geometry, gen int) {
	t.Helper()
	v := attached(t, c, g)
	for _, id := range v.IDs() {
		if id >= 2 && id/256 != gen {
			t.Fatalf("there is a block %d of generation %d", id, id/256)
		}
	}
	for id := range 2 {
		payload, _ := v.Read(id, 0)
		if label, _ := node.GetLabel(payload); label.Kind != 'S' || label.Gen != gen {
			t.Fatalf("master %d is %v, not of generation %d", id, label, gen)
		}
	}
}

func told(pairs []api.Pair) string {
	var all strings.Builder
	for _, p := range pairs {
		all.WriteString(strconv.Quote(p.Key) + " " + strconv.Quote(p.Value) + "\n")
	}
	return all.String()
}

// checkRead: what a file holds once it is mounted.
func checkRead(t *testing.T, c *nand.Chip, path, want string) {
	t.Helper()
	if data, err := mounted(t, c, usual).Read(path, 0, 9000); data != want || err != api.OK {
		t.Fatalf("Read(%s) is %.80q, %d, not %.80q", path, data, err, want)
	}
}

// lastTurn writes a logical block whose turn is the greatest that there is, onto a free block.
func lastTurn(t *testing.T, c *nand.Chip, b int) {
	t.Helper()
	pager, err := page.New(c, usual)
	check(t, "New", err, api.OK)
	ok(t, c.Erase(b), pager.Write(b, 0, "L\x00\x00\x00\x00\x00\x00\x00\x63\x00\x00\x01\x00\x00\x00\x00\x00\x01"))
}
