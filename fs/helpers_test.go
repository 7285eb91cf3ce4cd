package fs_test

import (
	"strconv"
	"strings"
	"testing"

	"chert/api"
	"chert/fs"
	"chert/key"
	"chert/leb"
	"chert/lz"
	"chert/nand"
	"chert/node"
	"chert/page"
	"chert/space"
	"chert/tree"
)

// usual is what most tests use: a journal of 2 blocks of 5 pages, and 4 blocks of 11 pages for a generation.
var usual = api.Geometry{Blocks: 14, Pages: 16, Chunks: 2, Chunk: 128, T: 2}

// geometries is what the broader tests go through.
var geometries = []api.Geometry{
	usual,
	{Blocks: 12, Pages: 16, Chunks: 1, Chunk: 256, T: 1},
	{Blocks: 17, Pages: 20, Chunks: 3, Chunk: 90, T: 3},
	{Blocks: 26, Pages: 24, Chunks: 4, Chunk: 100, T: 8},
}

func newChip(t *testing.T, g api.Geometry) *nand.Chip {
	t.Helper()
	c, err := page.Chip(g)
	check(t, "Chip", err, api.OK)
	return c
}

func formatted(t *testing.T, g api.Geometry) (*fs.FS, *nand.Chip) {
	t.Helper()
	c := newChip(t, g)
	f, err := fs.Format(c, g)
	check(t, "Format", err, api.OK)
	return f, c
}

func mounted(t *testing.T, c *nand.Chip, g api.Geometry) *fs.FS {
	t.Helper()
	f, err := fs.Mount(c, g)
	check(t, "Mount", err, api.OK)
	return f
}

func checkNoMount(t *testing.T, c *nand.Chip, g api.Geometry, want api.Errno) {
	t.Helper()
	f, err := fs.Mount(c, g)
	check(t, "Mount", err, want)
	if f != nil {
		t.Fatal("a file system beside an error")
	}
}

func attached(t *testing.T, c *nand.Chip, g api.Geometry) *leb.Volume {
	t.Helper()
	v, err := leb.Attach(c, g)
	check(t, "Attach", err, api.OK)
	return v
}

func planOf(t *testing.T, g api.Geometry) space.Plan {
	t.Helper()
	plan, ok := space.Of(g)
	if !ok {
		t.Fatalf("%v is not sufficient", g)
	}
	return plan
}

func ok(t *testing.T, errs ...api.Errno) {
	t.Helper()
	for i, err := range errs {
		if err != api.OK {
			t.Fatalf("call %d is %d", i, err)
		}
	}
}

func check(t *testing.T, what string, got, want api.Errno) {
	t.Helper()
	if got != want {
		t.Fatalf("%s is %d, not %d", what, got, want)
	}
}

func checkRead(t *testing.T, f *fs.FS, path string, offset, n int, want string, wantErr api.Errno) {
	t.Helper()
	if data, err := f.Read(path, offset, n); data != want || err != wantErr {
		t.Fatalf("Read(%s, %d, %d) is %.80q, %d, not %.80q, %d", path, offset, n, data, err, want, wantErr)
	}
}

func checkUsage(t *testing.T, f *fs.FS, nodes, capacity int) {
	t.Helper()
	if n, c := f.Usage(); n != nodes || c != capacity {
		t.Fatalf("Usage is %d, %d, not %d, %d", n, c, nodes, capacity)
	}
}

func encoded(k key.Key) string {
	text, _ := key.Encode(k)
	return text
}

func inodePair(number int, i node.Inode) api.Pair {
	return api.Pair{Key: encoded(key.Key{Number: number, Kind: key.Inode}), Value: node.PutInode(i)}
}

func entryPair(directory int, name string, number int) api.Pair {
	return api.Pair{Key: encoded(key.Key{Number: directory, Kind: key.Entry, Name: name}), Value: node.PutEntry(number)}
}

func piecePair(number, k int, data string) api.Pair {
	return api.Pair{Key: encoded(key.Key{Number: number, Kind: key.Data, Piece: k}), Value: lz.Pack(data)}
}

// someFile: the pairs of a file system with a file /f of these bytes.
func someFile(data string) []api.Pair {
	pairs := []api.Pair{
		inodePair(1, node.Inode{Dir: true, Links: 1}),
		entryPair(1, "f", 2),
		inodePair(2, node.Inode{Links: 1, Size: len(data)}),
	}
	for at := 0; at < len(data); at += api.Piece {
		if piece := strings.TrimRight(data[at:min(at+api.Piece, len(data))], "\x00"); piece != "" {
			pairs = append(pairs, piecePair(2, at/api.Piece, piece))
		}
	}
	return pairs
}

// told is what a call told.
type told struct {
	err   api.Errno
	data  string
	names string // one behind the other, each with a / in front
	info  fs.Info
}

// call is one of the calls of a file system.
type call struct {
	name         string
	path, to     string
	offset, size int
	data         string
}

func (c call) String() string {
	return c.name + " " + c.path + " " + c.to + " " + strconv.Itoa(c.offset) + " " + strconv.Itoa(c.size) + " " + strconv.Itoa(len(c.data))
}

func (c call) on(f *fs.FS) told {
	switch c.name {
	case "mkdir":
		return told{err: f.Mkdir(c.path)}
	case "create":
		return told{err: f.Create(c.path)}
	case "link":
		return told{err: f.Link(c.path, c.to)}
	case "unlink":
		return told{err: f.Unlink(c.path)}
	case "rmdir":
		return told{err: f.Rmdir(c.path)}
	case "rename":
		return told{err: f.Rename(c.path, c.to)}
	case "write":
		return told{err: f.Write(c.path, c.offset, c.data)}
	case "truncate":
		return told{err: f.Truncate(c.path, c.size)}
	case "read":
		data, err := f.Read(c.path, c.offset, c.size)
		return told{err: err, data: data}
	case "readdir":
		names, err := f.Readdir(c.path)
		return told{err: err, names: joined(names)}
	case "stat":
		info, err := f.Stat(c.path)
		return told{err: err, info: info}
	case "sync":
		return told{err: f.Sync()}
	case "fsync":
		return told{err: f.Fsync(c.path)}
	case "tick":
		return told{err: f.Tick()}
	}
	return told{err: f.Unmount()}
}

func joined(names []string) string {
	all := ""
	for _, name := range names {
		all += "/" + name
	}
	return all
}

// kinds: those of the calls that layer 19 knows.
func opOf(c call) tree.Op {
	kinds := []string{"", "mkdir", "create", "link", "unlink", "rmdir", "rename", "truncate"}
	for kind, name := range kinds {
		if name == c.name {
			return tree.Op{Kind: kind, Path: c.path, To: c.to, Size: c.size}
		}
	}
	return tree.Op{}
}

// bytesOfParity: of each chunk.
func bytesOfParity(t *testing.T, g api.Geometry) int {
	t.Helper()
	raw, _ := page.Raw(g)
	return raw/g.Chunks - g.Chunk
}
