package world_test

import (
	"fmt"
	"maps"
	"math/rand"
	"slices"
	"strings"
	"testing"

	"chert/api"
	"chert/key"
	"chert/lz"
	"chert/node"
	"chert/space"
	"chert/tree"
	"chert/world"
)

// model is layer 19's tree with the bytes of each file; a tree is nil while none is mounted.
type model struct {
	tree *tree.Tree
	data map[int]string
}

func newModel() *model { return &model{tree.New(), map[int]string{}} }

func (m *model) clone() *model { return &model{m.tree.Clone(), maps.Clone(m.data)} }

// remounted: the model whose new numbers follow those that exist.
func (m *model) remounted(t *testing.T) *model {
	t.Helper()
	built, err := tree.Build(m.tree.Pairs())
	if err != api.OK {
		t.Fatalf("Build is %d", err)
	}
	return &model{built, maps.Clone(m.data)}
}

func (m *model) file(path string) (int, api.Errno) {
	number, err := m.tree.Find(path)
	if inode, _ := m.tree.Inode(number); err == api.OK && inode.Dir {
		return 0, api.ErrIsDir
	}
	return number, err
}

func (m *model) do(a world.Act) world.Told {
	switch a.Kind {
	case world.Write:
		return world.Told{Code: m.write(a)}
	case world.Read:
		return m.read(a)
	case world.Readdir:
		names, err := m.tree.List(a.Path)
		return world.Told{Code: err, Names: names}
	case world.Stat, world.Fsync:
		number, err := m.tree.Find(a.Path)
		if err != api.OK || a.Kind == world.Fsync {
			return world.Told{Code: err}
		}
		i, _ := m.tree.Inode(number)
		return world.Told{Number: number, Links: i.Links, Size: i.Size, Dir: i.Dir}
	case world.Sync, world.Tick, world.Unmount, world.Mount:
		return world.Told{}
	}
	_, err := m.tree.Apply(tree.Op{Kind: opKind(a), Path: a.Path, To: a.To, Size: a.Size})
	m.settle()
	return world.Told{Code: err}
}

func opKind(a world.Act) int {
	return map[int]int{
		world.Mkdir: tree.Mkdir, world.Create: tree.Create, world.Link: tree.Link, world.Unlink: tree.Unlink,
		world.Rmdir: tree.Rmdir, world.Rename: tree.Rename, world.Truncate: tree.Resize,
	}[a.Kind]
}

// settle: each file has as many bytes as the tree says.
func (m *model) settle() {
	for number := range m.data {
		if _, exists := m.tree.Inode(number); !exists {
			delete(m.data, number)
		}
	}
	for _, path := range m.paths() {
		if number, err := m.file(path); err == api.OK {
			inode, _ := m.tree.Inode(number)
			old := m.data[number]
			m.data[number] = old[:min(len(old), inode.Size)] + strings.Repeat("\x00", max(inode.Size-len(old), 0))
		}
	}
}

// paths: of all that there is.
func (m *model) paths() []string {
	paths := []string{"/"}
	for i := 0; i < len(paths); i++ {
		names, _ := m.tree.List(paths[i])
		for _, name := range names {
			paths = append(paths, strings.TrimSuffix(paths[i], "/")+"/"+name)
		}
	}
	return paths
}

func (m *model) write(a world.Act) api.Errno {
	number, err := m.file(a.Path)
	switch end := a.Offset + len(a.Data); {
	case err != api.OK:
		return err
	case a.Offset < 0 || len(a.Data) > 256:
		return api.ErrInvalid
	case end > 8192:
		return api.ErrBig
	case a.Data == "":
		return api.OK
	default:
		old := m.data[number]
		old += strings.Repeat("\x00", max(end-len(old), 0))
		m.data[number] = old[:a.Offset] + a.Data + old[end:]
		m.tree.Apply(tree.Op{Kind: tree.Resize, Path: a.Path, Size: len(old)})
		return api.OK
	}
}

func (m *model) read(a world.Act) world.Told {
	number, err := m.file(a.Path)
	if err != api.OK {
		return world.Told{Code: err}
	}
	if a.Offset < 0 || a.Size < 0 {
		return world.Told{Code: api.ErrInvalid}
	}
	data := m.data[number]
	data = data[min(a.Offset, len(data)):]
	return world.Told{Data: data[:min(a.Size, len(data))]}
}

// pairs: the nodes that there are.
func (m *model) pairs() []api.Pair {
	pairs := m.tree.Pairs()
	for number, data := range m.data {
		for at := 0; at < len(data); at += 64 {
			if piece := strings.TrimRight(data[at:min(at+64, len(data))], "\x00"); piece != "" {
				text, _ := key.Encode(key.Key{Number: number, Kind: key.Data, Piece: at / 64})
				pairs = append(pairs, api.Pair{Key: text, Value: lz.Pack(piece)})
			}
		}
	}
	slices.SortFunc(pairs, func(a, b api.Pair) int { return strings.Compare(a.Key, b.Key) })
	return pairs
}

func fits(plan space.Plan, pairs []api.Pair) bool {
	var keys, sizes []int
	for _, p := range pairs {
		text, _ := node.Encode(node.Node{Key: p.Key, Value: p.Value})
		keys, sizes = append(keys, len(p.Key)), append(sizes, len(text))
	}
	return plan.Fits(keys, sizes)
}

// expect: what an act has to be answered, and the model after it.
func (m *model) expect(plan space.Plan, a world.Act) (world.Told, *model) {
	after := m.clone()
	want := after.do(a)
	if want.Code != api.OK {
		return want, m
	}
	if pairs := after.pairs(); !slices.Equal(pairs, m.pairs()) && !fits(plan, pairs) {
		return world.Told{Code: api.ErrNoSpace}, m
	}
	return want, after
}

// questions: acts that show all of a model.
func (m *model) questions() []world.Act {
	var all []world.Act
	for _, path := range m.paths() {
		all = append(all, readdir(path), stat(path), read(path, 0, 9000))
	}
	return all
}

func planOf(t *testing.T, g api.Geometry) space.Plan {
	t.Helper()
	plan, ok := space.Of(g)
	if !ok {
		t.Fatalf("%v is not sufficient", g)
	}
	return plan
}

var someNames = []string{"a", "b", "c", "a name of thirty-two bytes or so."}

// pathOf: most of those that exist, and some that don't.
func pathOf(random *rand.Rand, m *model) string {
	paths := m.paths()
	path := paths[random.Intn(len(paths))]
	switch random.Intn(12) {
	case 0, 1, 2, 3, 4:
		return strings.TrimSuffix(path, "/") + "/" + someNames[random.Intn(len(someNames))]
	case 5:
		return []string{"", "a", "/a/", "//", "/./a", "/..", "/a\x00", "/" + strings.Repeat("x", 33), strings.Repeat("/a", 17)}[random.Intn(9)]
	}
	return path
}

func numberOf(random *rand.Rand) int {
	switch random.Intn(12) {
	case 0:
		return -1
	case 1:
		return 8192 - random.Intn(300)
	case 2:
		return 8192 + random.Intn(3)
	}
	return random.Intn(700)
}

// often: kinds that make something.
var often = []int{world.Mkdir, world.Create, world.Create, world.Link, world.Truncate, world.Write, world.Write, world.Write}

// actOn: one of the acts 1 to 14.
func actOn(random *rand.Rand, m *model) world.Act {
	kind := 1 + random.Intn(14)
	if random.Intn(3) > 0 {
		kind = often[random.Intn(len(often))]
	}
	a := world.Act{Kind: kind, Path: pathOf(random, m), To: pathOf(random, m), Offset: numberOf(random), Size: numberOf(random)}
	if kind == world.Write {
		a.Data = anyData(random)
	}
	isFile := func(path string) bool {
		_, err := m.file(path)
		return err == api.OK
	}
	for range random.Intn(8) { // most of what can be done is done to files
		if !isFile(a.Path) && kind != world.Mkdir && kind != world.Create {
			a.Path = pathOf(random, m)
		}
	}
	return a
}

// TestModel: scripts of the acts 1 to 16 in which every Mount follows an Unmount, with turned bits.
func TestModel(t *testing.T) {
	t.Parallel()
	for seed := range 12 {
		g := geometries[seed%len(geometries)]
		random := rand.New(rand.NewSource(int64(seed)))
		m, plan := newModel(), planOf(t, g)
		script, want := acts(noise(seed, seed%(g.T+1))), []world.Told{{}}
		add := func(a world.Act) {
			var told world.Told
			told, m = m.expect(plan, a)
			script, want = append(script, a), append(want, told)
		}
		for range 600 {
			add(actOn(random, m))
			if random.Intn(40) == 0 {
				add(unmount)
				for range random.Intn(3) {
					script, want = append(script, actOn(random, m)), append(want, world.Told{Code: api.ErrGone})
				}
				m = m.remounted(t)
				add(mount)
			}
		}
		for _, a := range m.questions() {
			add(a)
		}
		for i, told := range run(t, g, script...).Told {
			if !same(told, want[i]) {
				t.Fatalf("seed %d, act %d: %s is answered %s, not %s", seed, i, brief(script[i]), brief(told), brief(want[i]))
			}
		}
	}
}

// tale is a script that goes on from what its acts were answered.
type tale struct {
	t      *testing.T
	random *rand.Rand
	g      api.Geometry
	plan   space.Plan
	script []world.Act
	model  *model
	after  []*model // what a Mount may find: the model that lasts, and those that followed it
}

// TestPowerLoss: scripts with Cuts, in which a Mount follows what is answered ErrPower.
func TestPowerLoss(t *testing.T) {
	for seed := range 8 {
		t.Run(fmt.Sprint(seed), func(t *testing.T) {
			t.Parallel()
			g := geometries[seed%len(geometries)]
			x := &tale{t: t, random: rand.New(rand.NewSource(int64(seed))), g: g, plan: planOf(t, g), model: newModel()}
			x.after = []*model{x.model}
			x.script = acts(noise(seed, g.T))
			losses := 0
			for range 12 {
				if x.goOn() {
					losses++
				}
			}
			if losses < 8 {
				t.Errorf("the power went off only %d times", losses)
			}
		})
	}
}

// goOn adds some acts up to the one that loses the power, and a Mount; did one lose it?
func (x *tale) goOn() bool {
	x.t.Helper()
	more := acts(cut(1+x.random.Intn(9), x.random.Intn(8)))
	m := x.model
	for range 60 {
		a := actOn(x.random, m)
		paths := m.paths()
		switch chance := x.random.Intn(10); {
		case chance < 2:
			a = syncAct
		case chance < 6 && len(paths) > 8: // so that there is room for more
			a = world.Act{Kind: world.Unlink + x.random.Intn(2), Path: paths[len(paths)-1]}
		}
		more = append(more, a)
		_, m = m.expect(x.plan, a)
	}
	told := run(x.t, x.g, append(slices.Clone(x.script), more...)...).Told[len(x.script):]
	for i, a := range more {
		want, after := world.Told{}, x.model
		if i > 0 {
			want, after = x.model.expect(x.plan, a)
		}
		if told[i].Code == api.ErrPower {
			x.after = append(x.after, after)
			x.script = append(x.script, more[:i+1]...)
			x.mount()
			return true
		}
		if !same(told[i], want) {
			x.t.Fatalf("%s is answered %s, not %s", brief(a), brief(told[i]), brief(want))
		}
		if after != x.model {
			x.model, x.after = after, append(x.after, after)
		}
		if told[i].Code == api.OK && (a.Kind == world.Sync || a.Kind == world.Fsync) {
			x.after = []*model{x.model}
		}
	}
	x.script = append(x.script, more...)
	return false
}

// mount: which of the models is it that remains?
func (x *tale) mount() {
	x.t.Helper()
	x.script = append(x.script, mount)
	for i, m := range slices.Backward(x.after) {
		if m = m.remounted(x.t); x.shows(m) {
			x.model, x.after = m, []*model{m}
			return
		}
		if i == 0 {
			x.t.Fatalf("what a Mount found is none of %d models", len(x.after))
		}
	}
}

func (x *tale) shows(m *model) bool {
	x.t.Helper()
	questions := m.questions()
	answers := run(x.t, x.g, append(slices.Clone(x.script), questions...)...).Told
	if err := answers[len(x.script)-1].Code; err != api.OK {
		x.t.Fatalf("Mount is %d", err)
	}
	for i, told := range answers[len(x.script):] {
		if want, _ := m.expect(x.plan, questions[i]); !same(told, want) {
			return false
		}
	}
	return true
}
