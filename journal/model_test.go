package journal_test

import (
	"fmt"
	"math/rand"
	"slices"
	"strings"
	"testing"

	"chert/api"
	"chert/journal"
	"chert/leb"
	"chert/node"
)

// geometries is what the broader tests go through.
var geometries = []api.Geometry{
	usual,
	{Blocks: 20, Pages: 8, Chunks: 1, Chunk: 36, T: 1}, // just enough for a label, and a room of one page of nodes
	{Blocks: 12, Pages: 16, Chunks: 2, Chunk: 128, T: 2},
	{Blocks: 8, Pages: 32, Chunks: 3, Chunk: 40, T: 3},
}

// model is what a journal has written by the chapter's words: pages of texts, in blocks.
type model struct {
	size, room int // of a page, and the pages of nodes in a block
	blocks     int // that the volume can still give
	pages      [][]string
	open       bool // the last page is held
}

func newModel(g api.Geometry) *model {
	return &model{size: g.Chunks*g.Chunk - 7, room: g.Pages/2 - 2 - 1, blocks: g.Blocks}
}

func bytesOf(texts []string) int { return len(strings.Join(texts, "")) }

// add tells the place of a node, and false if there is no block for it.
func (m *model) add(gen int, text string) (journal.Place, bool) {
	if !m.open || bytesOf(m.pages[len(m.pages)-1])+len(text) > m.size {
		m.open = false
		if len(m.pages) == m.room*m.blocks {
			return journal.Place{}, false
		}
		m.pages = append(m.pages, nil)
		m.open = true
	}
	n := len(m.pages) - 1
	at := bytesOf(m.pages[n])
	m.pages[n] = append(m.pages[n], text)
	return journal.Place{ID: id(gen, n/m.room), Page: 1 + n%m.room, At: at}, true
}

func (m *model) addAll(t *testing.T, gen int, group []node.Node) ([]journal.Place, bool) {
	t.Helper()
	var places []journal.Place
	for _, n := range group {
		p, fits := m.add(gen, text(t, n))
		if !fits {
			return nil, false
		}
		places = append(places, p)
	}
	return places, true
}

func (m *model) used() int { return (len(m.pages) + m.room - 1) / m.room }

// written: the groups that are complete in the pages that are written.
func (m *model) written(groups [][]node.Node) int {
	pages := m.pages
	if m.open {
		pages = pages[:len(pages)-1]
	}
	texts := 0
	for _, page := range pages {
		texts += len(page)
	}
	for i, group := range groups {
		if texts -= len(group); texts < 0 {
			return i
		}
	}
	return len(groups)
}

// anyGroup: of valid nodes that fit a page.
func anyGroup(random *rand.Rand, size int) []node.Node {
	group := make([]node.Node, 1+random.Intn(4)*random.Intn(3))
	for i := range group {
		n := node.Node{Seq: random.Intn(1000), Last: i == len(group)-1}
		n.Key = anyText(random, 1+random.Intn(min(64, size-plainBytes+1)))
		if random.Intn(4) == 0 {
			n.Gone = true
		} else {
			n.Value = anyText(random, random.Intn(min(200, size-plainBytes+1-len(n.Key))+1))
		}
		group[i] = n
	}
	return group
}

func anyText(random *rand.Rand, n int) string {
	b := make([]byte, n)
	random.Read(b)
	return string(b)
}

// TestModel compares the places, the blocks and what is read, up to the volume's end.
func TestModel(t *testing.T) {
	for seed := range 20 {
		compareAll(t, rand.New(rand.NewSource(int64(seed))), geometries[seed%len(geometries)])
	}
}

func compareAll(t *testing.T, random *rand.Rand, g api.Geometry) {
	t.Helper()
	v, c := newVolume(t, g)
	m, gen := newModel(g), random.Intn(1<<31)
	j := journal.New(v, gen)
	var groups [][]node.Node
	var places [][]journal.Place
	for {
		group := anyGroup(random, m.size)
		want, fits := m.addAll(t, gen, group)
		if !fits {
			checkNoAppend(t, j, group, api.ErrFull)
			break
		}
		checkAppend(t, j, group, want...)
		checkUsed(t, j, m.used())
		groups, places = append(groups, group), append(places, want)
		if random.Intn(4) == 0 {
			ok(t, j.Sync())
			m.open = false
		}
		old := random.Intn(len(groups))
		checkGroup(t, j, groups[old], places[old])
		if random.Intn(8) == 0 {
			checkReplay(t, v, gen, groups[:m.written(groups)]...)
		}
	}
	checkUsed(t, j, g.Blocks)
	checkEnded(t, j, api.ErrFull)
	for i, group := range groups {
		checkGroup(t, j, group, places[i])
	}
	checkReplay(t, v, gen, groups...)
	checkReplay(t, attached(t, c, g), gen, groups...)
	checkPayloads(t, v, m, gen)
}

// checkPayloads: each page of the volume holds the model's texts.
func checkPayloads(t *testing.T, v *leb.Volume, m *model, gen int) {
	t.Helper()
	for n, texts := range m.pages {
		want := strings.Join(texts, "")
		got, err := v.Read(id(gen, n/m.room), 1+n%m.room)
		if err != api.OK || got != want+strings.Repeat("\x00", m.size-len(want)) {
			t.Fatalf("page %d is %.80x, %d, not %.80x", n, got, err, want)
		}
	}
}

// step is a call of a story: an Append, or a Sync if there is no group.
type step struct{ group []node.Node }

func (s step) on(j *journal.Journal) api.Errno {
	if s.group == nil {
		return j.Sync()
	}
	_, err := j.Append(s.group)
	return err
}

func story(random *rand.Rand, size, length int) []step {
	var steps []step
	for range length {
		if random.Intn(3) == 0 {
			steps = append(steps, step{})
		} else {
			steps = append(steps, step{anyGroup(random, size)})
		}
	}
	return steps
}

// TestPowerLoss cuts each change of some stories in each way.
func TestPowerLoss(t *testing.T) {
	for seed, g := range geometries[:3] {
		steps := story(rand.New(rand.NewSource(int64(50+seed))), newModel(g).size, 30)
		for mode := range 8 {
			for n := 1; cutStory(t, g, steps, n, mode); n++ {
			}
		}
	}
}

// cutStory tells whether the power went off before the story's end.
func cutStory(t *testing.T, g api.Geometry, steps []step, n, mode int) bool {
	t.Helper()
	v, c := newVolume(t, g)
	for b := range g.Blocks { // a torn Erase may matter only on blocks that were used
		ok(t, v.Change(9000+b, false, "x"))
	}
	for b := range g.Blocks {
		ok(t, v.Unmap(9000+b))
	}
	j := journal.New(v, 4)
	c.Cut(n, mode)
	var groups [][]node.Node
	synced := 0
	for _, s := range steps {
		err := s.on(j)
		if s.group != nil {
			groups = append(groups, s.group)
		}
		if err == api.OK {
			if s.group == nil {
				synced = len(groups)
			}
			continue
		}
		if err == api.ErrFull {
			break
		}
		check(t, "the torn call", err, api.ErrPower)
		checkEnded(t, j, api.ErrPower)
		c.On()
		checkEnded(t, j, api.ErrPower)
		for range 2 {
			checkRemains(t, attached(t, c, g), groups, synced, fmt.Sprintf("change %d, mode %d", n, mode))
		}
		return true
	}
	checkRemains(t, v, groups, synced, "no cut")
	return false
}

// checkRemains: what is replayed are the first of the groups, and all that were synced.
func checkRemains(t *testing.T, v *leb.Volume, groups [][]node.Node, synced int, when string) {
	t.Helper()
	got, err := journal.Replay(v, 4)
	if err != api.OK {
		t.Fatalf("%s: Replay is %d", when, err)
	}
	if len(got) < synced || len(got) > len(groups) || !equalGroups(got, groups[:len(got)]) {
		t.Fatalf("%s: %d groups remain of %d, of which %d were synced", when, len(got), len(groups), synced)
	}
}

// TestAnyPages replays what is no journal's: it ends, and tells groups that are complete.
func TestAnyPages(t *testing.T) {
	random := rand.New(rand.NewSource(9))
	for range 400 {
		v, c := newVolume(t, usual)
		for k := range 3 {
			ok(t, v.Map(id(1, k), random.Intn(4) > 0))
			for n := range random.Intn(usualRoom) {
				payload := pageOf(t, groupOf("a", "b")[random.Intn(2):]...)
				if n == 0 && random.Intn(8) > 0 {
					payload = journalLabel(t, 1, k)
				} else if random.Intn(8) == 0 {
					payload = anyText(random, usualBytes)
				}
				ok(t, v.Append(id(1, k), payload))
			}
		}
		if random.Intn(2) == 0 {
			c.Spoil(random.Intn(3), random.Intn(8))
		}
		groups, err := journal.Replay(v, 1)
		if err != api.OK && err != api.ErrIO || err != api.OK && len(groups) > 0 {
			t.Fatalf("Replay is %v, %d", groups, err)
		}
		for _, group := range groups {
			isLast := func(n node.Node) bool { return n.Last }
			if slices.IndexFunc(group, isLast) != len(group)-1 {
				t.Fatalf("%v is no group", group)
			}
		}
	}
}
