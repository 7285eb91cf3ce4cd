package leb_test

import (
	"maps"
	"math/rand"
	"slices"
	"strings"
	"testing"

	"chert/api"
	"chert/leb"
	"chert/nand"
	"chert/page"
	"chert/parity"
)

// modelBlock is a logical block by the chapter's words.
type modelBlock struct {
	single, closed, guarded bool
	pages                   []string
}

// model is what a volume on an unworn chip holds.
type model struct {
	g      api.Geometry
	blocks map[int]modelBlock
}

func newModel(g api.Geometry) *model { return &model{g, map[int]modelBlock{}} }

func (m *model) clone() *model { return &model{m.g, maps.Clone(m.blocks)} }

func (m *model) room(one bool) int {
	plan, _ := parity.Of(m.g.Pages, one)
	return len(plan.Data) - 1
}

func (m *model) tooLong(payloads ...string) bool {
	return slices.ContainsFunc(payloads, func(p string) bool { return len(p) > payloadBytes(m.g) })
}

// call is one that changes a volume.
type call struct {
	name     string
	id       int
	single   bool
	payloads []string
}

func (c call) on(v *leb.Volume) api.Errno {
	switch c.name {
	case "map":
		return v.Map(c.id, c.single)
	case "append":
		return v.Append(c.id, c.payloads[0])
	case "close":
		return v.Close(c.id)
	case "unmap":
		return v.Unmap(c.id)
	}
	return v.Change(c.id, c.single, c.payloads...)
}

func (m *model) do(c call) api.Errno {
	block, exists := m.blocks[c.id]
	valid := c.id >= 0 && c.id <= api.MaxNumber
	full := len(m.blocks) == m.g.Blocks
	switch {
	case !valid && (c.name == "map" || c.name == "change"):
		return api.ErrArg
	case c.name == "map" && exists:
		return api.ErrExists
	case c.name == "change" && (len(c.payloads) > m.room(c.single) || m.tooLong(c.payloads...)):
		return api.ErrLong
	case (c.name == "map" || c.name == "change") && full:
		return api.ErrFull
	case (c.name == "append" || c.name == "close" || c.name == "unmap") && !exists:
		return api.ErrUnmapped
	case (c.name == "append" || c.name == "close") && block.closed:
		return api.ErrClosed
	case c.name == "append" && m.tooLong(c.payloads[0]):
		return api.ErrLong
	}
	switch c.name {
	case "map":
		block = modelBlock{single: c.single}
	case "change":
		block = modelBlock{single: c.single, closed: true, pages: c.payloads}
	case "append":
		block.pages = append(slices.Clone(block.pages), c.payloads[0])
	}
	if c.name != "unmap" {
		block.closed = block.closed || c.name == "close" || len(block.pages) == m.room(block.single)
		block.guarded = block.closed
		m.blocks[c.id] = block
	} else {
		delete(m.blocks, c.id)
	}
	return api.OK
}

// attach: what another Attach finds.
func (m *model) attach() {
	for id, block := range m.blocks {
		block.closed = true
		m.blocks[id] = block
	}
}

func (m *model) ids() []int { return slices.Sorted(maps.Keys(m.blocks)) }

// anyCall: most of them are ones that a volume accepts now and then.
func anyCall(random *rand.Rand, g api.Geometry, ids int) call {
	c := call{
		name:   []string{"map", "append", "append", "append", "close", "unmap", "change"}[random.Intn(7)],
		id:     random.Intn(ids) - random.Intn(20)/19,
		single: random.Intn(2) == 0,
	}
	for range 1 + random.Intn(4) {
		payload := make([]byte, random.Intn(payloadBytes(g)+1)+random.Intn(20)/19)
		random.Read(payload)
		c.payloads = append(c.payloads, string(payload))
	}
	return c
}

func checkModel(t *testing.T, v *leb.Volume, m *model) {
	t.Helper()
	checkIDs(t, v, m.ids()...)
	for id, block := range m.blocks {
		checkPages(t, v, m.g, id, block.closed, block.pages...)
	}
	used := 0
	for _, block := range v.Blocks() {
		if block.Used {
			used++
		}
	}
	if used != len(m.blocks) {
		t.Fatalf("%d blocks are used, not %d", used, len(m.blocks))
	}
}

// TestModel compares random calls, with turned bits and lost pages.
func TestModel(t *testing.T) {
	for seed, g := range geometries {
		random := rand.New(rand.NewSource(int64(seed)))
		v, c, p := newVolume(t, g)
		raw, _ := page.Raw(g)
		c.Noise(seed, g.T, raw/g.Chunks)
		m := newModel(g)
		for range 1500 {
			call := anyCall(random, g, g.Blocks+2)
			if got, want := call.on(v), m.do(call); got != want {
				t.Fatalf("%v: %v is %d, not %d", g, call, got, want)
			}
			switch random.Intn(20) {
			case 0:
				checkModel(t, v, m)
			case 1:
				v = attached(t, c, g)
				m.attach()
			case 2:
				loseOneOfEachGroup(t, random, v, p, c, g)
			}
		}
		checkModel(t, v, m)
	}
}

// loseOneOfEachGroup spoils pages of the blocks that were closed with their parities, unless some are lost already.
func loseOneOfEachGroup(t *testing.T, random *rand.Rand, v *leb.Volume, p *page.Pager, c *nand.Chip, g api.Geometry) {
	t.Helper()
	for b, block := range v.Blocks() {
		found := mustFind(t, p, b, 0)
		if !block.Used || found.State != page.Good {
			continue
		}
		plan, _ := parity.Of(g.Pages, found.Payload[17]&single != 0)
		for group, sum := range plan.Parity {
			pages := append(plan.Members(group), sum)
			bad := func(n int) bool { return mustFind(t, p, b, n).State == page.Bad }
			if last := plan.Parity[len(plan.Parity)-1]; mustFind(t, p, b, last).State == page.Empty || slices.ContainsFunc(pages, bad) {
				continue
			}
			c.Spoil(b, pages[random.Intn(len(pages))])
		}
	}
}

// story is a list of calls that each come to something.
func story(random *rand.Rand, g api.Geometry, length int) []call {
	var calls []call
	m := newModel(g)
	for len(calls) < length {
		if call := anyCall(random, g, 4); m.do(call) == api.OK {
			calls = append(calls, call)
		}
	}
	return calls
}

// TestPowerLoss cuts each change of some stories in each way.
func TestPowerLoss(t *testing.T) {
	for seed, g := range []api.Geometry{usual, geometry(6, 4, 1, 32, 1), geometry(6, 12, 1, 32, 1), usual} {
		random := rand.New(rand.NewSource(int64(100 + seed)))
		calls := story(random, g, 40)
		for mode := range 8 {
			for n := 1; cutStory(t, g, calls, n, mode); n++ {
			}
		}
	}
}

// cutStory tells whether the power went off before the story's end.
func cutStory(t *testing.T, g api.Geometry, calls []call, n, mode int) bool {
	t.Helper()
	v, c, _ := newVolume(t, g)
	m := newModel(g)
	c.Cut(n, mode)
	for _, call := range calls {
		before := m.clone()
		got := call.on(v)
		m.do(call)
		if got == api.OK {
			continue
		}
		check(t, "the torn "+call.name, got, api.ErrPower)
		checkIDs(t, v, before.ids()...)
		checkPowerless(t, v, g, before, c)
		c.On()
		checkPowerless(t, v, g, before, c)
		checkRecovered(t, c, g, before, m, call)
		return true
	}
	checkModel(t, v, m)
	return false
}

// checkPowerless: the volume tells ErrPower unless another error comes first, and changes nothing.
func checkPowerless(t *testing.T, v *leb.Volume, g api.Geometry, m *model, c *nand.Chip) {
	t.Helper()
	changes, long := c.Changes(), strings.Repeat("x", payloadBytes(g)+1)
	check(t, "Map of no id", v.Map(-1, true), api.ErrArg)
	check(t, "Map", v.Map(77, true), api.ErrPower)
	check(t, "Change of no id", v.Change(-1, true), api.ErrArg)
	check(t, "Change of too much", v.Change(1, true, long), api.ErrLong)
	check(t, "Change", v.Change(77, true), api.ErrPower)
	check(t, "Append", v.Append(77, "x"), api.ErrUnmapped)
	check(t, "Close", v.Close(77), api.ErrUnmapped)
	check(t, "Unmap", v.Unmap(77), api.ErrUnmapped)
	checkRead(t, v, 77, 0, "", api.ErrUnmapped)
	for id, block := range m.blocks {
		checkCount(t, v, id, len(block.pages), block.closed)
		check(t, "Map again", v.Map(id, true), api.ErrExists)
		check(t, "Change", v.Change(id, true), api.ErrPower)
		check(t, "Unmap", v.Unmap(id), api.ErrPower)
		want := api.ErrPower
		if block.closed {
			want = api.ErrClosed
		} else {
			check(t, "Append of too much", v.Append(id, long), api.ErrLong)
		}
		check(t, "Append", v.Append(id, "x"), want)
		check(t, "Close", v.Close(id), want)
		for n := range block.pages {
			checkRead(t, v, id, n, "", api.ErrPower)
		}
		checkRead(t, v, id, len(block.pages), "", api.ErrNone)
	}
	if c.Changes() != changes {
		t.Fatal("a volume without power changes the chip")
	}
}

// checkRecovered: what Attach finds after the torn call is what the chapter permits.
func checkRecovered(t *testing.T, c *nand.Chip, g api.Geometry, before, after *model, torn call) {
	t.Helper()
	v := attached(t, c, g)
	for _, id := range v.IDs() {
		_, wasThere := before.blocks[id]
		_, isThere := after.blocks[id]
		if !wasThere && !isThere {
			t.Fatalf("after a torn %s of %d there is %d", torn.name, torn.id, id)
		}
	}
	for id, block := range before.blocks {
		if id == torn.id && (torn.name == "unmap" || torn.name == "change") {
			continue
		}
		if block.single || block.closed {
			checkKept(t, v, g, id, block)
		}
	}
	if torn.name == "change" {
		checkChanged(t, v, g, torn.id, before, after)
	}
	again := attached(t, c, g)
	if !slices.Equal(again.IDs(), v.IDs()) {
		t.Fatalf("another Attach finds %v, not %v", again.IDs(), v.IDs())
	}
	for id := range 3 { // and it goes on
		v.Unmap(id)
		ok(t, v.Map(id, false), v.Change(id, true))
	}
}

// checkKept: all pages are there, and at most one more.
func checkKept(t *testing.T, v *leb.Volume, g api.Geometry, id int, block modelBlock) {
	t.Helper()
	n, closed := v.Count(id)
	if n < len(block.pages) || n > len(block.pages)+1 || !closed || block.closed && n > len(block.pages) {
		t.Fatalf("Count(%d) is %d, %v, after %d pages", id, n, closed, len(block.pages))
	}
	for n, payload := range block.pages {
		checkRead(t, v, id, n, padded(g, payload), api.OK)
	}
}

// checkChanged: a torn Change was executed or not.
func checkChanged(t *testing.T, v *leb.Volume, g api.Geometry, id int, before, after *model) {
	t.Helper()
	old, existed := before.blocks[id]
	n, closed := v.Count(id)
	if !closed && !existed {
		return
	}
	holds := func(block modelBlock) bool {
		for i, payload := range block.pages {
			if got, err := v.Read(id, i); err != api.OK || got != padded(g, payload) {
				return false
			}
		}
		return closed && n == len(block.pages)
	}
	if existed && !old.single && !old.closed {
		return // nothing is promised of the old one
	}
	if !holds(after.blocks[id]) && !(existed && (holds(old) || old.single && !old.closed && n <= len(old.pages)+1)) {
		t.Fatalf("a torn Change of %d left %d pages, %v", id, n, closed)
	}
}

// TestPowerLossInAttach: it can be torn any number of times.
func TestPowerLossInAttach(t *testing.T) {
	for mode := range 8 {
		c, p := newChip(t, usual)
		for b := range 5 {
			lay(t, p, b, labelText(1, uint64(10-b), 0), string(rune('a'+b)))
		}
		for range 4 {
			c.Cut(1, mode)
			v, err := leb.Attach(c, usual)
			if v == nil && err != api.ErrPower || v != nil && err != api.OK {
				t.Fatalf("Attach is %v, %d", v, err)
			}
			c.On()
		}
		v := attached(t, c, usual)
		checkIDs(t, v, 1)
		checkPages(t, v, usual, 1, true, "a")
		checkUsed(t, v, 0)
	}
}

// TestReadWithoutPower: it ends the volume too.
func TestReadWithoutPower(t *testing.T) {
	v, c, _ := newVolume(t, usual)
	ok(t, v.Change(1, true, "x"), v.Map(2, true))
	c.Cut(1, 0)
	c.Erase(5)
	checkRead(t, v, 1, 0, "", api.ErrPower)
	c.On()
	checkRead(t, v, 1, 0, "", api.ErrPower)
	check(t, "Append", v.Append(2, "y"), api.ErrPower)
	check(t, "Map", v.Map(3, true), api.ErrPower)
	checkPages(t, attached(t, c, usual), usual, 1, true, "x")
}

// TestFullComesBeforePower: the chapter lists it first.
func TestFullComesBeforePower(t *testing.T) {
	v, c, _ := newVolume(t, usual)
	for id := range usual.Blocks {
		ok(t, v.Change(id, true, "x"))
	}
	c.Cut(1, 0)
	check(t, "Unmap", v.Unmap(0), api.ErrPower)
	check(t, "Map", v.Map(9, true), api.ErrFull)
	check(t, "Change", v.Change(0, true, "y"), api.ErrFull)
	checkIDs(t, v, 0, 1, 2, 3, 4, 5)
}
