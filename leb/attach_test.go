package leb_test

import (
	"math/rand"
	"slices"
	"strings"
	"testing"

	"chert/api"
	"chert/page"
	"chert/parity"
)

func TestWhatIsALabel(t *testing.T) {
	good := labelText(5, 6, 0)
	for _, l := range []struct {
		payload string
		ids     []int
	}{
		{good, []int{5}},
		{labelText(0, 0, single), []int{0}},
		{labelText(api.MaxNumber, api.MaxNumber, single), []int{api.MaxNumber}},
		{labelText(api.MaxNumber+1, 1, 0), nil},
		{labelText(1, api.MaxNumber+1, 0), nil},
		{labelText(1<<63, 1, 0), nil},
		{labelText(1<<64-1, 1, 0), nil},
		{labelText(1, 1<<63, 0), nil},
		{labelText(1, 1<<64-1, 0), nil},
		{labelText(1, 1, 4), nil},
		{labelText(1, 1, 5), nil},
		{labelText(1, 1, 0x80), nil},
		{labelText(1, 1, 255), nil},
		{good + "\x00\x00", []int{5}},
		{good + "\x01", nil},
		{good + strings.Repeat("\x00", 6) + "\x01", nil},
		{"M" + good[1:], nil},
		{"l" + good[1:], nil},
		{"", nil},
		{strings.Repeat("\xff", 25), nil},
	} {
		c, p := newChip(t, usual)
		lay(t, p, 2, l.payload, "x")
		v := attached(t, c, usual)
		checkIDs(t, v, l.ids...)
		if len(l.ids) == 0 {
			checkUsed(t, v)
			if c.Changes() != 2 {
				t.Errorf("%q: a block without a label was erased", l.payload)
			}
			continue
		}
		checkUsed(t, v, 2)
		checkPages(t, v, usual, l.ids[0], true, "x")
	}
}

func TestPagesEndAtTheFirstEmptyOne(t *testing.T) {
	c, p := newChip(t, usual)
	lay(t, p, 0, labelText(1, 1, 0), "a", "b", "-", "c")
	lay(t, p, 1, labelText(2, 2, single), "a", "not data", "nor this", "b")
	lay(t, p, 2, labelText(3, 3, single), "a", "not data")
	lay(t, p, 3, labelText(4, 4, 0), "a", "b", "c", "d", "p", "not data", "q")
	lay(t, p, 4, labelText(5, 5, 0), "-", "b")
	c.Spoil(0, 2)
	v := attached(t, c, usual)
	checkIDs(t, v, 1, 2, 3, 4, 5)
	checkCount(t, v, 1, 2, true)
	checkRead(t, v, 1, 0, padded(usual, "a"), api.OK)
	checkRead(t, v, 1, 1, "", api.ErrIO)
	checkPages(t, v, usual, 2, true, "a", "b")
	checkPages(t, v, usual, 3, true, "a")
	checkPages(t, v, usual, 4, true, "a", "b", "c", "d")
	checkPages(t, v, usual, 5, true)
	for id := 1; id <= 5; id++ {
		check(t, "Append", v.Append(id, "x"), api.ErrClosed)
	}
}

// TestOnlyTheLastParityCounts: a closing that was torn between the two has none of them.
func TestOnlyTheLastParityCounts(t *testing.T) {
	label := labelText(1, 1, 0)
	sums := []string{parity.Xor(25, label, "a"), ""}
	for _, last := range []bool{false, true} {
		c, p := newChip(t, usual)
		lay(t, p, 0, label, "a", "-", "-", "-", sums[0])
		if last {
			p.Write(0, 7, "wrong, but there")
		}
		v := attached(t, c, usual)
		c.Spoil(0, 1)
		if last {
			checkRead(t, v, 1, 0, padded(usual, "a"), api.OK)
		} else {
			checkRead(t, v, 1, 0, "", api.ErrIO)
		}
	}
	c, p := newChip(t, usual) // a spoilt one isn't Empty
	lay(t, p, 0, label, "a", "-", "-", "-", sums[0], "-", sums[1])
	c.Spoil(0, 7)
	v := attached(t, c, usual)
	c.Spoil(0, 1)
	checkRead(t, v, 1, 0, padded(usual, "a"), api.OK)
}

func TestChangeWithoutParitiesIsNotUsed(t *testing.T) {
	for _, one := range []byte{0, single} {
		for _, last := range []bool{false, true} {
			c, p := newChip(t, usual)
			plan, _ := parity.Of(usual.Pages, one == single)
			lay(t, p, 0, labelText(1, 4, 0), "old")
			lay(t, p, 3, labelText(1, 5, changed+one), "new")
			if last {
				p.Write(3, plan.Parity[len(plan.Parity)-1], "any")
			}
			v := attached(t, c, usual)
			checkIDs(t, v, 1)
			if last {
				checkUsed(t, v, 3)
				checkPages(t, v, usual, 1, true, "new")
			} else {
				checkUsed(t, v, 0)
				checkPages(t, v, usual, 1, true, "old")
			}
			for b, want := range map[int]bool{0: last, 3: !last} {
				if erases, _ := c.Counts(b); (erases == 1) != want || erases > 1 {
					t.Errorf("block %d: %d erases", b, erases)
				}
			}
		}
	}
}

func TestTheGreatestTurnIsUsed(t *testing.T) {
	for _, turns := range [][]uint64{{1, 2, 3}, {3, 2, 1}, {2, 3, 1}, {0, 0, 0}, {1, 7, 7}, {7, 1, 7}, {api.MaxNumber, 2, 1}} {
		c, p := newChip(t, usual)
		for b, turn := range turns {
			lay(t, p, b, labelText(9, turn, 0), string(rune('a'+b)))
		}
		lay(t, p, 4, labelText(8, 5, 0), "other")
		best := slices.Index(turns, slices.Max(turns))
		v := attached(t, c, usual)
		checkIDs(t, v, 8, 9)
		checkUsed(t, v, best, 4)
		checkPages(t, v, usual, 9, true, string(rune('a'+best)))
		for b := range usual.Blocks {
			want := 0
			if b < len(turns) && b != best {
				want = 1
			}
			if erases, _ := c.Counts(b); erases != want {
				t.Errorf("turns %v: block %d has %d erases", turns, b, erases)
			}
		}
	}
}

func TestLostLabels(t *testing.T) {
	for _, one := range []byte{0, single} {
		plan, _ := parity.Of(usual.Pages, one == single)
		for count := range len(plan.Data) {
			payloads := []string{"", "two!", "three", "4"}[:count]
			for also := range usual.Pages { // another page that is lost, or none if it is 0
				v, c, _ := newVolume(t, usual)
				ok(t, v.Change(1, one == single, payloads...))
				c.Spoil(0, 0)
				c.Spoil(0, also)
				v = attached(t, c, usual)
				written := slices.Contains(plan.Parity, also) || slices.Contains(plan.Data[:count+1], also)
				if also > 0 && written && also/2%2 == 0 {
					checkIDs(t, v)
					checkUsed(t, v)
					continue
				}
				checkIDs(t, v, 1)
				checkPages(t, v, usual, 1, true, payloads...)
			}
		}
	}
}

// TestLostLabelBesideEmptyPages: they are as if they held nothing, wherever they are.
func TestLostLabelBesideEmptyPages(t *testing.T) {
	c, p := newChip(t, usual)
	label := labelText(3, 1, single)
	lay(t, p, 0, label, "-", "-", "-", "b", parity.Xor(25, label, "b"))
	lay(t, p, 1, labelText(4, 1, single), "a", "-", "-", "b", "no label comes of this")
	lay(t, p, 2, "-", "-", "-", "-", "-", labelText(5, 1, single)) // its first page is empty, not lost
	c.Spoil(0, 0)
	c.Spoil(1, 0)
	v := attached(t, c, usual)
	checkIDs(t, v, 3)
	checkPages(t, v, usual, 3, true)
}

func TestAttachLeavesWornBlocks(t *testing.T) {
	c, p := newChip(t, usual)
	lay(t, p, 0, labelText(1, 1, 0), "old")
	lay(t, p, 1, labelText(1, 2, 0), "new")
	lay(t, p, 2, labelText(1, 1, 0), "older")
	c.Wear(0)
	v := attached(t, c, usual)
	checkPages(t, v, usual, 1, true, "new")
	checkWorn(t, v, 0)
	if c.Changes() != 7 {
		t.Errorf("%d changes", c.Changes())
	}
	ok(t, v.Unmap(1))
	checkPages(t, attached(t, c, usual), usual, 1, true, "old")
}

func TestAttachReadsEachPageOnceAtMost(t *testing.T) {
	for _, g := range geometries {
		v, c, _ := newVolume(t, g)
		room, _ := v.Room(false)
		ok(t, v.Change(1, false, make([]string, room)...))
		before := v.Blocks()
		for b, block := range attached(t, c, g).Blocks() {
			if n := block.Reads - before[b].Reads; n < 1 || n > g.Pages {
				t.Errorf("%v: %d reads of block %d", g, n, b)
			}
		}
	}
}

// TestAnyContent: whatever a chip holds, Attach ends, and the volume goes on.
func TestAnyContent(t *testing.T) {
	random := rand.New(rand.NewSource(1))
	for range 300 {
		c, p := newChip(t, usual)
		for b := range usual.Blocks {
			for n := range usual.Pages {
				payload := labelText(uint64(random.Intn(4)), uint64(random.Intn(9)), byte(random.Intn(5)))
				if n > 0 || random.Intn(4) == 0 {
					payload = string(rune('a' + n))
				}
				if random.Intn(3) > 0 {
					p.Write(b, n, payload)
				}
			}
			for range random.Intn(3) {
				c.Spoil(b, random.Intn(usual.Pages))
			}
		}
		want := slowContent(t, p, usual)
		v := attached(t, c, usual)
		if !slices.Equal(v.IDs(), want.ids()) {
			t.Fatalf("IDs is %v, not %v", v.IDs(), want.ids())
		}
		for id, block := range want {
			checkCount(t, v, id, len(block.pages), true)
			if !v.Blocks()[block.at].Used {
				t.Fatalf("id %d is not on block %d", id, block.at)
			}
		}
		for id := range 4 {
			v.Unmap(id)
			ok(t, v.Map(id, true), v.Append(id, "x"))
			checkPages(t, v, usual, id, false, "x")
		}
		checkIDs(t, attached(t, c, usual), 0, 1, 2, 3)
	}
}

type slowBlock struct {
	at    int
	turn  string
	pages []page.Found
}

type slowBlocks map[int]slowBlock

func (s slowBlocks) ids() []int {
	var ids []int
	for id := range 9 {
		if _, exists := s[id]; exists {
			ids = append(ids, id)
		}
	}
	return ids
}

// slowContent: the content of a chip by the chapter's words, for small ids and turns.
func slowContent(t *testing.T, p *page.Pager, g api.Geometry) slowBlocks {
	t.Helper()
	blocks := slowBlocks{}
	for b := range g.Blocks {
		first := mustFind(t, p, b, 0)
		plan, _ := parity.Of(g.Pages, false)
		if sum := mustFind(t, p, b, plan.Parity[0]); first.State == page.Bad && sum.State == page.Good {
			payloads, bad := []string{sum.Payload}, false
			for _, n := range plan.Members(0)[1:] {
				found := mustFind(t, p, b, n)
				bad = bad || found.State == page.Bad
				payloads = append(payloads, found.Payload)
			}
			if !bad {
				first = page.Found{State: page.Good, Payload: parity.Xor(payloadBytes(g), payloads...)}
			}
		}
		if first.State != page.Good {
			continue
		}
		payload := first.Payload
		id, turn, flags := int(payload[8]), payload[16:17], payload[17]
		if payload != padded(g, labelText(uint64(id), uint64(turn[0]), flags)) || flags > 3 {
			continue
		}
		plan, _ = parity.Of(g.Pages, flags&single != 0)
		last := mustFind(t, p, b, plan.Parity[len(plan.Parity)-1])
		if flags&changed != 0 && last.State == page.Empty {
			continue
		}
		block := slowBlock{at: b, turn: turn}
		for _, n := range plan.Data[1:] {
			found := mustFind(t, p, b, n)
			if found.State == page.Empty {
				break
			}
			block.pages = append(block.pages, found)
		}
		if other, exists := blocks[id]; !exists || other.turn < turn {
			blocks[id] = block
		}
	}
	return blocks
}
