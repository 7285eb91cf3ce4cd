package journal_test

import (
	"math"
	"slices"
	"strings"
	"testing"
	"unsafe"

	"chert/api"
	"chert/journal"
	"chert/leb"
	"chert/nand"
	"chert/node"
	"chert/pack"
	"chert/page"
)

// usual is what most tests use: a page has room for 57 bytes, and a block for its label and five pages of nodes.
var usual = api.Geometry{Blocks: 16, Pages: 16, Chunks: 1, Chunk: 64, T: 1}

const (
	usualBytes = 57
	usualRoom  = 5
)

// plainBytes: of a node with a Key of one byte and no Value.
const plainBytes = 18

func newVolume(t *testing.T, g api.Geometry) (*leb.Volume, *nand.Chip) {
	t.Helper()
	c, err := page.Chip(g)
	if err != api.OK {
		t.Fatalf("Chip(%v) is %d", g, err)
	}
	return attached(t, c, g), c
}

func attached(t *testing.T, c *nand.Chip, g api.Geometry) *leb.Volume {
	t.Helper()
	v, err := leb.Attach(c, g)
	if err != api.OK {
		t.Fatalf("Attach is %d", err)
	}
	return v
}

func ok(t *testing.T, errs ...api.Errno) {
	t.Helper()
	for i, err := range errs {
		if err != api.OK {
			t.Fatalf("call %d is %d", i, err)
		}
	}
}

func check(t *testing.T, what string, got, want api.Errno) {
	t.Helper()
	if got != want {
		t.Fatalf("%s is %d, not %d", what, got, want)
	}
}

// id: the number of a journal's logical block.
func id(gen, k int) int { return gen*256 + 2 + k }

// groupOf: a group of nodes with these values; each has plainBytes and those of its value.
func groupOf(values ...string) []node.Node {
	var group []node.Node
	for i, value := range values {
		group = append(group, node.Node{Seq: i, Key: "k", Value: value, Last: i == len(values)-1})
	}
	return group
}

// sized: a group of one node of so many bytes, all of which are this one in the Value.
func sized(bytes int, fill string) []node.Node {
	return groupOf(strings.Repeat(fill, bytes-plainBytes))
}

func text(t *testing.T, n node.Node) string {
	t.Helper()
	s, valid := node.Encode(n)
	if !valid {
		t.Fatalf("%v is no valid node", n)
	}
	return s
}

func appended(t *testing.T, j *journal.Journal, group []node.Node) []journal.Place {
	t.Helper()
	places, err := j.Append(group)
	if err != api.OK || len(places) != len(group) {
		t.Fatalf("Append of %d nodes is %v, %d", len(group), places, err)
	}
	return places
}

func checkAppend(t *testing.T, j *journal.Journal, group []node.Node, want ...journal.Place) {
	t.Helper()
	if places := appended(t, j, group); !slices.Equal(places, want) {
		t.Fatalf("Append is %v, not %v", places, want)
	}
}

func checkNoAppend(t *testing.T, j *journal.Journal, group []node.Node, want api.Errno) {
	t.Helper()
	if places, err := j.Append(group); len(places) > 0 || err != want {
		t.Fatalf("Append of %.80v is %v, %d, not %d", group, places, err, want)
	}
}

func checkRead(t *testing.T, j *journal.Journal, p journal.Place, want node.Node, wantErr api.Errno) {
	t.Helper()
	if n, err := j.Read(p); n != want || err != wantErr {
		t.Fatalf("Read(%v) is %.80v, %d, not %.80v, %d", p, n, err, want, wantErr)
	}
}

func checkGroup(t *testing.T, j *journal.Journal, group []node.Node, places []journal.Place) {
	t.Helper()
	for i, n := range group {
		checkRead(t, j, places[i], n, api.OK)
	}
}

func checkUsed(t *testing.T, j *journal.Journal, want int) {
	t.Helper()
	if got := j.Used(); got != want {
		t.Fatalf("Used is %d, not %d", got, want)
	}
}

func equalGroups(a, b [][]node.Node) bool {
	return slices.EqualFunc(a, b, func(x, y []node.Node) bool { return slices.Equal(x, y) })
}

func checkReplay(t *testing.T, v *leb.Volume, gen int, want ...[]node.Node) {
	t.Helper()
	if got, err := journal.Replay(v, gen); err != api.OK || !equalGroups(got, want) {
		t.Fatalf("Replay is %.200v, %d, not %.200v", got, err, want)
	}
}

func checkNoReplay(t *testing.T, v *leb.Volume, gen int, want api.Errno) {
	t.Helper()
	if got, err := journal.Replay(v, gen); len(got) > 0 || err != want {
		t.Fatalf("Replay is %.200v, %d, not %d", got, err, want)
	}
}

func TestExample(t *testing.T) {
	v, _ := newVolume(t, usual)
	j := journal.New(v, 3)
	a, bc := groupOf("a"), groupOf("b", "c")
	appended(t, j, a)
	checkReplay(t, v, 3)
	appended(t, j, bc)
	ok(t, j.Sync())
	checkReplay(t, v, 3, a, bc)
}

func TestRoomAndID(t *testing.T) {
	if journal.Room() != 100 {
		t.Errorf("Room is %d", journal.Room())
	}
	for _, c := range []struct {
		gen, k, id int
		ok         bool
	}{
		{0, 0, 2, true},
		{0, 1, 3, true},
		{0, 99, 101, true},
		{1, 0, 258, true},
		{7, 5, 7*256 + 7, true},
		{1 << 31, 0, 1<<39 + 2, true},
		{1 << 31, 99, 1<<39 + 101, true},
		{1<<31 + 1, 0, 0, false},
		{math.MaxInt, 0, 0, false},
		{-1, 0, 0, false},
		{math.MinInt, 0, 0, false},
		{0, -1, 0, false},
		{0, 100, 0, false},
		{0, math.MaxInt, 0, false},
		{0, math.MinInt, 0, false},
		{-1, 100, 0, false},
	} {
		if got, valid := journal.ID(c.gen, c.k); got != c.id || valid != c.ok {
			t.Errorf("ID(%d, %d) is %d, %v", c.gen, c.k, got, valid)
		}
	}
}

func TestNewUsesNothing(t *testing.T) {
	v, c := newVolume(t, usual)
	for _, gen := range []int{0, 1, 1 << 31, -1, 1<<31 + 1, math.MinInt, math.MaxInt} {
		j := journal.New(v, gen)
		if j == nil {
			t.Fatalf("New(%d) is nil", gen)
		}
		checkUsed(t, j, 0)
		ok(t, j.Sync())
	}
	if c.Changes() != 0 || len(v.IDs()) != 0 {
		t.Errorf("New made %d changes and %v", c.Changes(), v.IDs())
	}
}

// TestLayout: what stands where on the volume.
func TestLayout(t *testing.T) {
	v, _ := newVolume(t, usual)
	j := journal.New(v, 258)
	group := groupOf("a", "b", "c", "d")
	b := id(258, 0)
	checkAppend(t, j, group, journal.Place{ID: b, Page: 1, At: 0}, journal.Place{ID: b, Page: 1, At: 19}, journal.Place{ID: b, Page: 1, At: 38}, journal.Place{ID: b, Page: 2, At: 0})
	checkUsed(t, j, 1)
	if n, closed := v.Count(b); n != 2 || closed {
		t.Fatalf("Count is %d, %v", n, closed)
	}
	ok(t, j.Sync())
	label, _ := node.PutLabel(node.Label{Kind: 'J', Gen: 258})
	first := text(t, group[0]) + text(t, group[1]) + text(t, group[2])
	for n, want := range []string{label, first, text(t, group[3])} {
		want += strings.Repeat("\x00", usualBytes-len(want))
		if got, err := v.Read(b, n); got != want || err != api.OK {
			t.Errorf("page %d is %x, %d, not %x", n, got, err, want)
		}
	}
	if room, _ := v.Room(true); room != usualRoom+1 {
		t.Errorf("the block has room for %d pages: not in single mode", room)
	}
}

// TestBlocksFollow: the next block is mapped for the node that begins a page of it.
func TestBlocksFollow(t *testing.T) {
	v, c := newVolume(t, usual)
	j := journal.New(v, 1)
	for n := range 3 * usualRoom {
		k := n / usualRoom
		checkUsed(t, j, (n+usualRoom-1)/usualRoom)
		checkAppend(t, j, sized(usualBytes, "x"), journal.Place{ID: id(1, k), Page: 1 + n%usualRoom})
		checkUsed(t, j, k+1)
	}
	ok(t, j.Sync())
	checkUsed(t, j, 3)
	if _, closed := v.Count(id(1, 2)); !closed {
		t.Error("the last block is not closed")
	}
	changes := c.Changes()
	checkAppend(t, j, groupOf("y"), journal.Place{ID: id(1, 3), Page: 1})
	checkUsed(t, j, 4)
	if label, err := v.Read(id(1, 3), 0); c.Changes() != changes+2 || err != api.OK {
		t.Errorf("%d changes, and the label is %q", c.Changes()-changes, label)
	}
	for k := range 4 {
		payload, _ := v.Read(id(1, k), 0)
		if l, _ := node.GetLabel(payload); l != (node.Label{Kind: 'J', Gen: 1, Number: k}) {
			t.Errorf("the label of block %d is %v", k, l)
		}
	}
}

func TestSyncWritesWhatIsHeld(t *testing.T) {
	v, c := newVolume(t, usual)
	j := journal.New(v, 1)
	ok(t, j.Sync())
	checkAppend(t, j, groupOf("a"), journal.Place{ID: id(1, 0), Page: 1})
	changes := c.Changes()
	ok(t, j.Sync(), j.Sync(), j.Sync())
	if c.Changes() != changes+1 {
		t.Errorf("Sync made %d changes", c.Changes()-changes)
	}
	checkAppend(t, j, groupOf("b"), journal.Place{ID: id(1, 0), Page: 2})
	checkReplay(t, attached(t, c, usual), 1, groupOf("a"))
}

func TestAppendOfWhatIsWrong(t *testing.T) {
	v, c := newVolume(t, usual)
	long := strings.Repeat("x", usualBytes+1-plainBytes)
	last := node.Node{Key: "a", Last: true}
	for _, group := range [][]node.Node{
		nil,
		{},
		{{Key: "a"}},
		{{Key: "a"}, {Key: "b"}},
		{last, {Key: "b"}},
		{last, last},
		{{Key: "a"}, last, {Key: "b"}, last},
		{{Last: true}},
		{{Key: "a"}, {Last: true}},
		{{}, last},
		{{Key: "a", Seq: -1, Last: true}},
		{{Key: "a", Seq: api.MaxNumber + 1, Last: true}},
		{{Key: "a", Value: "b", Gone: true, Last: true}},
		{{Key: strings.Repeat("k", 65), Last: true}},
		{{Key: "a", Value: strings.Repeat("x", 201), Last: true}},
		groupOf(long),
		groupOf("a", long, "b"),
		groupOf("a", "b", long),
	} {
		j := journal.New(v, 1)
		checkNoAppend(t, j, group, api.ErrArg)
		checkUsed(t, j, 0)
		ok(t, j.Sync())
		checkReplay(t, v, 1)
	}
	for _, gen := range []int{-1, math.MinInt, 1<<31 + 1, math.MaxInt} {
		j := journal.New(v, gen)
		checkNoAppend(t, j, groupOf("a"), api.ErrArg)
		checkUsed(t, j, 0)
		ok(t, j.Sync())
	}
	if c.Changes() != 0 {
		t.Errorf("%d changes", c.Changes())
	}
}

// TestAppendOfWhatIsWrongHasNoEffect: neither on what is held nor on later calls.
func TestAppendOfWhatIsWrongHasNoEffect(t *testing.T) {
	v, _ := newVolume(t, usual)
	j := journal.New(v, 1)
	a, b := groupOf("a"), groupOf("b")
	places := appended(t, j, a)
	checkNoAppend(t, j, []node.Node{{Key: "x"}, {Key: "y"}}, api.ErrArg)
	checkNoAppend(t, j, nil, api.ErrArg)
	checkGroup(t, j, a, places)
	checkAppend(t, j, b, journal.Place{ID: id(1, 0), Page: 1, At: 19})
	ok(t, j.Sync())
	checkReplay(t, v, 1, a, b)
}

func TestGreatestNodesAndGenerations(t *testing.T) {
	g := usual
	g.Chunk = 256
	key, value := strings.Repeat("k", 64), strings.Repeat("v", 200)
	greatest := []node.Node{{Seq: api.MaxNumber, Key: key, Value: value}, {Seq: 0, Key: key, Gone: true, Last: true}}
	v, _ := newVolume(t, g)
	checkNoAppend(t, journal.New(v, 1), greatest, api.ErrArg) // 281 bytes are more than a page's 249
	g.Chunks = 2
	for _, gen := range []int{0, 1 << 31} {
		v, _ = newVolume(t, g)
		j := journal.New(v, gen)
		checkGroup(t, j, greatest, appended(t, j, greatest))
		ok(t, j.Sync())
		checkReplay(t, v, gen, greatest)
		checkReplay(t, v, 5)
	}
	v, _ = newVolume(t, usual)
	full := sized(usualBytes, "x")
	j := journal.New(v, 1)
	checkGroup(t, j, full, appended(t, j, full))
}

func TestReadOfWhatIsHeldAndWritten(t *testing.T) {
	v, _ := newVolume(t, usual)
	j := journal.New(v, 1)
	a, b, c := groupOf("a"), groupOf("b", "c", "d"), groupOf("e")
	first := appended(t, j, a)
	checkGroup(t, j, a, first)
	second := appended(t, j, b)
	checkGroup(t, j, a, first)
	checkGroup(t, j, b, second)
	ok(t, j.Sync())
	third := appended(t, j, c)
	checkGroup(t, j, a, first)
	checkGroup(t, j, b, second)
	checkGroup(t, j, c, third)
}

func TestReadOfNoNode(t *testing.T) {
	v, _ := newVolume(t, usual)
	j := journal.New(v, 1)
	b := id(1, 0)
	group := []node.Node{{Seq: 1, Key: "a", Value: text(t, node.Node{Key: "b"}), Last: true}} // what looks like a node begins at 14
	check := func() {
		t.Helper()
		for _, at := range []int{-1, 1, 14, 17, 18, 36, 56, usualBytes, usualBytes + 1, math.MinInt, math.MaxInt} {
			checkRead(t, j, journal.Place{ID: b, Page: 1, At: at}, node.Node{}, api.ErrNone)
		}
		for _, page := range []int{-1, 2, 3, math.MinInt, math.MaxInt} {
			checkRead(t, j, journal.Place{ID: b, Page: page}, node.Node{}, api.ErrNone)
		}
		checkRead(t, j, journal.Place{ID: b, Page: 0}, node.Node{}, api.ErrNone)
	}
	checkGroup(t, j, group, appended(t, j, group))
	check()
	ok(t, j.Sync())
	check()
}

func TestReadTellsTheVolumesError(t *testing.T) {
	v, c := newVolume(t, usual)
	j := journal.New(v, 1)
	checkRead(t, j, journal.Place{}, node.Node{}, api.ErrUnmapped)
	places := appended(t, j, groupOf("a"))
	c.Spoil(0, dataPages[2]) // nothing was written there yet
	checkGroup(t, j, groupOf("a"), places)
	ok(t, j.Sync())
	checkGroup(t, j, groupOf("a"), places)
	c.Spoil(0, dataPages[2])
	checkRead(t, j, places[0], node.Node{}, api.ErrIO)
	held := appended(t, j, groupOf("b"))
	checkRead(t, j, places[0], node.Node{}, api.ErrIO)
	checkRead(t, j, journal.Place{ID: id(1, 1), Page: 1}, node.Node{}, api.ErrUnmapped)
	c.Cut(1, 0)
	check(t, "Erase", c.Erase(9), api.ErrPower)
	checkRead(t, j, places[0], node.Node{}, api.ErrPower)
	checkGroup(t, j, groupOf("b"), held)
}

func TestNil(t *testing.T) {
	var j *journal.Journal
	checkNoAppend(t, j, groupOf("a"), api.ErrArg)
	checkNoAppend(t, j, nil, api.ErrArg)
	check(t, "Sync", j.Sync(), api.ErrArg)
	checkRead(t, j, journal.Place{}, node.Node{}, api.ErrArg)
	checkUsed(t, j, 0)
	for _, gen := range []int{0, -1} {
		j = journal.New(nil, gen)
		if j == nil {
			t.Fatal("New of no volume is nil")
		}
		checkNoAppend(t, j, groupOf("a"), api.ErrArg)
		check(t, "Sync", j.Sync(), api.ErrArg)
		checkRead(t, j, journal.Place{}, node.Node{}, api.ErrArg)
		checkUsed(t, j, 0)
		checkNoReplay(t, nil, gen, api.ErrArg)
	}
}

func TestArgumentsAreNeitherChangedNorKept(t *testing.T) {
	v, _ := newVolume(t, usual)
	j := journal.New(v, 1)
	group := append(make([]node.Node, 0, 4), groupOf("a", "b")...)
	places := appended(t, j, group)
	if !slices.Equal(group[:4], append(groupOf("a", "b"), node.Node{}, node.Node{})) {
		t.Fatalf("the group is %v now", group[:4])
	}
	want := slices.Clone(places)
	group[0], group[1], places[0] = node.Node{}, node.Node{}, journal.Place{}
	checkGroup(t, j, groupOf("a", "b"), want)
	ok(t, j.Sync())
	checkReplay(t, v, 1, groupOf("a", "b"))
}

func TestResultsAreNew(t *testing.T) {
	v, _ := newVolume(t, usual)
	j := journal.New(v, 1)
	value := strings.Repeat("v", 30)
	places := appended(t, j, groupOf(value))
	a, _ := j.Read(places[0])
	b, _ := j.Read(places[0])
	if unsafe.StringData(a.Value) == unsafe.StringData(value) || unsafe.StringData(a.Value) == unsafe.StringData(b.Value) {
		t.Error("results of Read share memory")
	}
	ok(t, j.Sync())
	want := [][]node.Node{groupOf(value)}
	for _, n := range []int{5, 1, 1, 3, 1, 2, 1} { // a list that grows to five or three has room for one more behind it
		group := groupOf("a", "b", "c", "d", "e")[5-n:]
		appended(t, j, group)
		want = append(want, group)
	}
	ok(t, j.Sync())
	groups, _ := journal.Replay(v, 1)
	for _, group := range groups {
		_ = append(group, node.Node{Key: "x"}, node.Node{Key: "y"})
	}
	if !equalGroups(groups, want) {
		t.Error("the lists of Replay share memory")
	}
	checkReplay(t, v, 1, want...)
}

// TestPacking: groups are packed as a packer does it with their nodes.
func TestPacking(t *testing.T) {
	v, _ := newVolume(t, usual)
	j := journal.New(v, 1)
	lengths := []int{20, 37, 18, 40, 18, 57, 18, 18, 18, 18, 39, 19}
	for _, n := range lengths {
		appended(t, j, sized(n, "x"))
	}
	ok(t, j.Sync())
	want, _ := pack.Pages(usualBytes, lengths...)
	pages := 0
	for k := range j.Used() {
		n, _ := v.Count(id(1, k))
		pages += n - 1
	}
	if pages != want {
		t.Errorf("%d pages of nodes, not %d", pages, want)
	}
}
