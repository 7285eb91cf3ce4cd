package fs_test

import (
	"maps"
	"math/rand"
	"slices"
	"strconv"
	"strings"
	"testing"

	"chert/api"
	"chert/fs"
	"chert/node"
	"chert/space"
	"chert/tree"
)

// model is layer 19's tree with the bytes of each file.
type model struct {
	tree *tree.Tree
	data map[int]string
}

func newModel() *model { return &model{tree.New(), map[int]string{}} }

func (m *model) clone() *model { return &model{m.tree.Clone(), maps.Clone(m.data)} }

// remounted: the model whose new numbers follow those that exist.
func (m *model) remounted(t *testing.T) *model {
	t.Helper()
	built, err := tree.Build(m.tree.Pairs())
	check(t, "Build", err, api.OK)
	return &model{built, maps.Clone(m.data)}
}

func (m *model) file(path string) (int, api.Errno) {
	number, err := m.tree.Find(path)
	if inode, _ := m.tree.Inode(number); err == api.OK && inode.Dir {
		return 0, api.ErrIsDir
	}
	return number, err
}

func (m *model) do(c call) told {
	switch c.name {
	case "write":
		return told{err: m.write(c)}
	case "read":
		return m.read(c)
	case "readdir":
		names, err := m.tree.List(c.path)
		return told{err: err, names: joined(names)}
	case "stat", "fsync":
		number, err := m.tree.Find(c.path)
		if err != api.OK || c.name == "fsync" {
			return told{err: err}
		}
		inode, _ := m.tree.Inode(number)
		return told{info: fs.Info{Number: number, Inode: inode}}
	case "sync", "tick", "unmount":
		return told{}
	}
	_, err := m.tree.Apply(opOf(c))
	m.settle()
	return told{err: err}
}

// settle: each file has as many bytes as the tree says.
func (m *model) settle() {
	for number := range m.data {
		if _, exists := m.tree.Inode(number); !exists {
			delete(m.data, number)
		}
	}
	for _, number := range m.files() {
		inode, _ := m.tree.Inode(number)
		old := m.data[number]
		m.data[number] = old[:min(len(old), inode.Size)] + strings.Repeat("\x00", max(inode.Size-len(old), 0))
	}
}

// files: the numbers of all files.
func (m *model) files() []int {
	var all []int
	for _, path := range m.paths() {
		if number, err := m.file(path); err == api.OK {
			all = append(all, number)
		}
	}
	return all
}

// paths: of all that there is.
func (m *model) paths() []string {
	paths := []string{"/"}
	for i := 0; i < len(paths); i++ {
		names, _ := m.tree.List(paths[i])
		for _, name := range names {
			paths = append(paths, strings.TrimSuffix(paths[i], "/")+"/"+name)
		}
	}
	return paths
}

func (m *model) write(c call) api.Errno {
	number, err := m.file(c.path)
	switch end := c.offset + len(c.data); {
	case err != api.OK:
		return err
	case c.offset < 0 || len(c.data) > 256:
		return api.ErrInvalid
	case end > 8192 || end < 0:
		return api.ErrBig
	case c.data == "":
		return api.OK
	default:
		old := m.data[number]
		old += strings.Repeat("\x00", max(end-len(old), 0))
		m.data[number] = old[:c.offset] + c.data + old[end:]
		m.tree.Apply(tree.Op{Kind: tree.Resize, Path: c.path, Size: len(old)})
		return api.OK
	}
}

func (m *model) read(c call) told {
	number, err := m.file(c.path)
	if err != api.OK {
		return told{err: err}
	}
	if c.offset < 0 || c.size < 0 {
		return told{err: api.ErrInvalid}
	}
	data := m.data[number]
	data = data[min(c.offset, len(data)):]
	return told{data: data[:min(c.size, len(data))]}
}

// pairs: the nodes that there are.
func (m *model) pairs() []api.Pair {
	pairs := m.tree.Pairs()
	for number, data := range m.data {
		for at := 0; at < len(data); at += 64 {
			if piece := strings.TrimRight(data[at:min(at+64, len(data))], "\x00"); piece != "" {
				pairs = append(pairs, piecePair(number, at/64, piece))
			}
		}
	}
	slices.SortFunc(pairs, func(a, b api.Pair) int { return strings.Compare(a.Key, b.Key) })
	return pairs
}

func fits(plan space.Plan, pairs []api.Pair) bool {
	var keys, sizes []int
	for _, p := range pairs {
		text, _ := node.Encode(node.Node{Key: p.Key, Value: p.Value})
		keys, sizes = append(keys, len(p.Key)), append(sizes, len(text))
	}
	return plan.Fits(keys, sizes)
}

// expect: what a call has to tell, and the model after it.
func (m *model) expect(plan space.Plan, c call) (told, *model) {
	after := m.clone()
	want := after.do(c)
	if want.err != api.OK {
		return want, m
	}
	if pairs := after.pairs(); !slices.Equal(pairs, m.pairs()) && !fits(plan, pairs) {
		return told{err: api.ErrNoSpace}, m
	}
	return want, after
}

// shown: all that a model shows.
func (m *model) shown() string {
	var text strings.Builder
	for _, path := range m.paths() {
		number, _ := m.tree.Find(path)
		inode, _ := m.tree.Inode(number)
		show(&text, path, fs.Info{Number: number, Inode: inode}, m.data[number])
	}
	return text.String()
}

func show(text *strings.Builder, path string, info fs.Info, data string) {
	text.WriteString(path + " " + strconv.Itoa(info.Number) + " " + strconv.FormatBool(info.Dir) + " " + strconv.Itoa(info.Links) + " " + strconv.Itoa(info.Size) + " " + data + "\n")
}

// shownBy: all that a file system shows.
func shownBy(t *testing.T, f *fs.FS) string {
	t.Helper()
	var text strings.Builder
	paths := []string{"/"}
	for i := 0; i < len(paths); i++ {
		info, err := f.Stat(paths[i])
		check(t, "Stat "+paths[i], err, api.OK)
		data := ""
		if info.Dir {
			names, err := f.Readdir(paths[i])
			check(t, "Readdir", err, api.OK)
			for _, name := range names {
				paths = append(paths, strings.TrimSuffix(paths[i], "/")+"/"+name)
			}
		} else {
			data, err = f.Read(paths[i], 0, 9000)
			check(t, "Read "+paths[i], err, api.OK)
		}
		show(&text, paths[i], info, data)
	}
	return text.String()
}

func checkShown(t *testing.T, f *fs.FS, m *model) {
	t.Helper()
	if got, want := shownBy(t, f), m.shown(); got != want {
		t.Fatalf("the file system shows\n%s\nand not\n%s", got, want)
	}
	n, _ := f.Usage()
	if pairs := m.pairs(); n != len(pairs) {
		t.Fatalf("Usage tells %d nodes, not %d", n, len(pairs))
	}
}

// do makes a call and compares what it tells.
func (m *model) checkCall(t *testing.T, plan space.Plan, f *fs.FS, c call) *model {
	t.Helper()
	want, after := m.expect(plan, c)
	if got := c.on(f); got != want {
		t.Fatalf("%v is %.200v, not %.200v", c, got, want)
	}
	return after
}

var someNames = []string{"a", "b", "c", "dd", "a name of thirty-two bytes or so."}

// anyPath: most of those that exist, and some that don't.
func anyPath(random *rand.Rand, m *model) string {
	paths := m.paths()
	path := paths[random.Intn(len(paths))]
	switch random.Intn(12) {
	case 0, 1, 2, 3, 4:
		return strings.TrimSuffix(path, "/") + "/" + someNames[random.Intn(len(someNames))]
	case 5:
		return []string{"", "a", "/a/", "//", "/./a", "/..", "/a\x00", "/" + strings.Repeat("x", 33), "/a/b/c/d/e", strings.Repeat("/a", 17)}[random.Intn(10)]
	}
	return path
}

// anyData: some of it packs well, some not at all, and some of it is nothing.
func anyData(random *rand.Rand, most int) string {
	data := make([]byte, random.Intn(most+1))
	switch random.Intn(4) {
	case 0:
		random.Read(data)
	case 1:
		for i := range data {
			data[i] = byte('a' + random.Intn(3))
		}
	case 2:
		for i := range data {
			data[i] = byte(random.Intn(2))
		}
	}
	return string(data)
}

func anyNumber(random *rand.Rand) int {
	switch random.Intn(12) {
	case 0:
		return -1
	case 1:
		return 8192 - random.Intn(300)
	case 2:
		return 8192 + random.Intn(3)
	case 3, 4:
		return random.Intn(8192)
	}
	return random.Intn(700)
}

// weights: how often each call is made.
var weights = map[string]int{
	"mkdir": 3, "create": 6, "link": 3, "unlink": 4, "rmdir": 2, "rename": 4, "write": 14, "truncate": 4,
	"read": 4, "readdir": 1, "stat": 1, "sync": 2, "fsync": 1, "tick": 1,
}

func anyCall(random *rand.Rand, m *model) call {
	var names []string
	for _, name := range slices.Sorted(maps.Keys(weights)) {
		names = append(names, slices.Repeat([]string{name}, weights[name])...)
	}
	c := call{name: names[random.Intn(len(names))], path: anyPath(random, m), to: anyPath(random, m), offset: anyNumber(random), size: anyNumber(random)}
	if c.name == "write" {
		c.data = anyData(random, 256+random.Intn(20)/19)
	}
	if files := m.files(); c.name == "write" && random.Intn(3) > 0 && len(files) > 0 {
		for _, path := range m.paths() {
			if number, err := m.file(path); err == api.OK && number == files[random.Intn(len(files))] {
				c.path = path
			}
		}
	}
	return c
}

// TestModel compares random calls, with turned bits, lost pages, and mounts.
func TestModel(t *testing.T) {
	for seed := range 8 {
		compareAll(t, seed, geometries[seed%len(geometries)], 1500)
	}
}

func compareAll(t *testing.T, seed int, g api.Geometry, calls int) {
	t.Helper()
	random := rand.New(rand.NewSource(int64(seed)))
	f, c := formatted(t, g)
	c.Noise(seed, g.T, g.Chunk+bytesOfParity(t, g))
	m, plan := newModel(), planOf(t, g)
	for range calls {
		m = m.checkCall(t, plan, f, anyCall(random, m))
		switch random.Intn(60) {
		case 0:
			ok(t, f.Unmount())
			f, m = mounted(t, c, g), m.remounted(t)
		case 1:
			ok(t, f.Sync())
			f, m = mounted(t, c, g), m.remounted(t)
		case 2:
			checkShown(t, f, m)
		}
	}
	checkShown(t, f, m)
}
