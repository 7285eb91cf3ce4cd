package journal_test

import (
	"math"
	"strings"
	"testing"

	"chert/api"
	"chert/journal"
	"chert/leb"
	"chert/node"
)

// label: the label of a journal's block.
func label(t *testing.T, l node.Label) string {
	t.Helper()
	s, valid := node.PutLabel(l)
	if !valid {
		t.Fatalf("%v is no valid label", l)
	}
	return s
}

func journalLabel(t *testing.T, gen, k int) string {
	t.Helper()
	return label(t, node.Label{Kind: 'J', Gen: gen, Number: k})
}

// lay maps a logical block and writes these pages.
func lay(t *testing.T, v *leb.Volume, id int, payloads ...string) {
	t.Helper()
	ok(t, v.Map(id, true))
	for _, payload := range payloads {
		ok(t, v.Append(id, payload))
	}
}

// pageOf: the payload of a page of nodes.
func pageOf(t *testing.T, nodes ...node.Node) string {
	t.Helper()
	var payload strings.Builder
	for _, n := range nodes {
		payload.WriteString(text(t, n))
	}
	return payload.String()
}

func TestReplayOfNothing(t *testing.T) {
	v, c := newVolume(t, usual)
	for _, gen := range []int{0, 1, 1 << 31} {
		checkReplay(t, v, gen)
	}
	for _, gen := range []int{-1, math.MinInt, 1<<31 + 1, math.MaxInt} {
		checkNoReplay(t, v, gen, api.ErrArg)
	}
	c.Cut(1, 0)
	check(t, "Erase", c.Erase(9), api.ErrPower)
	checkReplay(t, v, 1) // there is nothing to read
}

// TestReplayReadsConsecutiveBlocks: up to the first that does not exist, and of this generation alone.
func TestReplayReadsConsecutiveBlocks(t *testing.T) {
	v, _ := newVolume(t, usual)
	one := func(value string) string { return pageOf(t, groupOf(value)...) }
	lay(t, v, id(1, 0), journalLabel(t, 1, 0), one("a"), one("b"))
	lay(t, v, id(1, 1), journalLabel(t, 1, 1), one("c"))
	lay(t, v, id(1, 3), journalLabel(t, 1, 3), one("d"))
	lay(t, v, id(2, 0), journalLabel(t, 2, 0), one("e"))
	lay(t, v, id(3, 1), journalLabel(t, 3, 1), one("f"))
	checkReplay(t, v, 1, groupOf("a"), groupOf("b"), groupOf("c"))
	checkReplay(t, v, 2, groupOf("e"))
	checkReplay(t, v, 3)
	lay(t, v, id(1, 2), journalLabel(t, 1, 2))
	checkReplay(t, v, 1, groupOf("a"), groupOf("b"), groupOf("c"), groupOf("d"))
}

// TestReplayGroups: they are complete, wherever their pages and blocks end.
func TestReplayGroups(t *testing.T) {
	v, _ := newVolume(t, usual)
	g := groupOf("a", "b", "c", "d")
	lay(t, v, id(1, 0), journalLabel(t, 1, 0), pageOf(t, g[0]), "", pageOf(t, g[1]))
	checkReplay(t, v, 1)
	lay(t, v, id(1, 1), journalLabel(t, 1, 1), pageOf(t, g[2]), pageOf(t, append(g[3:], groupOf("e")...)...), pageOf(t, groupOf("f", "g")[:1]...))
	checkReplay(t, v, 1, g, groupOf("e"))
	ok(t, v.Append(id(1, 1), pageOf(t, groupOf("f", "g")[1:]...)))
	checkReplay(t, v, 1, g, groupOf("e"), groupOf("f", "g"))
}

func TestReplayEndsAtAWrongLabel(t *testing.T) {
	right := node.Label{Kind: 'J', Gen: 1, Number: 1}
	var wrong []string
	for _, l := range []node.Label{
		{Kind: 'M', Gen: 1, Number: 1},
		{Kind: 'J', Gen: 2, Number: 1},
		{Kind: 'J', Gen: 1, Number: 0},
		{Kind: 'J', Gen: 1, Number: 2},
		{Kind: 'J', Gen: 1, Number: 1, Total: 1},
	} {
		wrong = append(wrong, label(t, l))
	}
	wrong = append(wrong, "", "J", label(t, right)[:28], " "+label(t, right), pageOf(t, groupOf("x")...))
	for _, first := range wrong {
		v, c := newVolume(t, usual)
		nodes := pageOf(t, groupOf("a")...)
		lay(t, v, id(1, 0), journalLabel(t, 1, 0), nodes)
		lay(t, v, id(1, 1), first, nodes, "spoilt")
		lay(t, v, id(1, 2), journalLabel(t, 1, 2), "no nodes", nodes)
		c.Spoil(1, 4)
		checkReplay(t, v, 1, groupOf("a"))
		checkReplay(t, v, 2)
	}
	v, _ := newVolume(t, usual)
	lay(t, v, id(1, 0), journalLabel(t, 1, 1), pageOf(t, groupOf("a")...))
	lay(t, v, id(1, 1), journalLabel(t, 1, 1), pageOf(t, groupOf("a")...))
	checkReplay(t, v, 1)
}

func TestReplaySkipsABlockWithoutPages(t *testing.T) {
	nodes := func(value string) string { return pageOf(t, groupOf(value)...) }
	v, _ := newVolume(t, usual)
	lay(t, v, id(1, 0))
	checkReplay(t, v, 1)
	lay(t, v, id(1, 1), journalLabel(t, 1, 1), nodes("a"))
	checkReplay(t, v, 1, groupOf("a"))
	lay(t, v, id(1, 2))
	ok(t, v.Close(id(1, 2)))
	lay(t, v, id(1, 3), journalLabel(t, 1, 3), nodes("b"))
	lay(t, v, id(1, 4))
	checkReplay(t, v, 1, groupOf("a"), groupOf("b"))
}

// damage is something that makes a page unreadable.
type damage struct {
	name   string
	block  int // of the journal, and of the chip
	page   int // of the logical block
	blocks int // that the journal has, with three pages of nodes each
	want   int // how many groups remain; -1 if it is an error
}

var damages = []damage{
	{"the last page of the only block", 0, 3, 1, 2},
	{"a page of the only block", 0, 2, 1, -1},
	{"the first page of nodes of the only block", 0, 1, 1, -1},
	{"the last page of the last block", 1, 3, 2, 5},
	{"a page of the last block", 1, 1, 2, -1},
	{"the last page of the block before the last", 0, 3, 2, -1},
	{"a page of the block before the last", 0, 2, 2, -1},
}

// dataPages: the pages of the chip's block that hold the label of layer 9, and the pages of a logical block in single mode.
var dataPages = []int{0, 1, 4, 5, 8, 9, 12}

func letters(n int) [][]node.Node {
	var groups [][]node.Node
	for i := range n {
		groups = append(groups, groupOf(string(rune('a'+i))))
	}
	return groups
}

// withJournal: a volume with blocks of three pages of a group each; what is laid on the page in question is given.
func withJournal(t *testing.T, d damage, laid func(payload string) string) (*leb.Volume, func(b, p int) api.Errno) {
	t.Helper()
	v, c := newVolume(t, usual)
	groups := letters(3 * d.blocks)
	for k := range d.blocks {
		payloads := []string{journalLabel(t, 1, k)}
		for n := range 3 {
			payload := pageOf(t, groups[3*k+n]...)
			if k == d.block && n+1 == d.page {
				payload = laid(payload)
			}
			payloads = append(payloads, payload)
		}
		lay(t, v, id(1, k), payloads...)
	}
	return v, c.Spoil
}

func (d damage) check(t *testing.T, v *leb.Volume) {
	t.Helper()
	t.Log(d.name)
	if d.want < 0 {
		checkNoReplay(t, v, 1, api.ErrIO)
		return
	}
	checkReplay(t, v, 1, letters(d.want)...)
}

func TestReplayOfALostPage(t *testing.T) {
	for _, d := range damages {
		v, spoil := withJournal(t, d, strings.Clone)
		ok(t, spoil(d.block, dataPages[d.page+1]))
		d.check(t, v)
	}
}

func TestReplayOfAPageThatCannotBeUnpacked(t *testing.T) {
	for _, wrong := range []func(payload string) string{
		func(string) string { return "x" },
		func(payload string) string { return payload + "x" },
		func(payload string) string {
			return payload[:len(payload)-1] + string([]byte{payload[len(payload)-1] ^ 1})
		},
		func(payload string) string { return payload + "N" },
	} {
		for _, d := range damages {
			v, _ := withJournal(t, d, wrong)
			d.check(t, v)
		}
	}
}

func TestReplayOfALostLabel(t *testing.T) {
	v, c := newVolume(t, usual)
	lay(t, v, id(1, 0), journalLabel(t, 1, 0), pageOf(t, groupOf("a")...))
	lay(t, v, id(1, 1), journalLabel(t, 1, 1))
	c.Spoil(1, dataPages[1])
	checkReplay(t, v, 1, groupOf("a")) // it is the last page
	ok(t, v.Append(id(1, 1), pageOf(t, groupOf("b")...)))
	checkNoReplay(t, v, 1, api.ErrIO)

	v, c = newVolume(t, usual)
	lay(t, v, id(1, 0), journalLabel(t, 1, 0))
	c.Spoil(0, dataPages[1])
	checkReplay(t, v, 1)
	lay(t, v, id(1, 1), journalLabel(t, 1, 1), pageOf(t, groupOf("a")...))
	checkNoReplay(t, v, 1, api.ErrIO)
}

// TestReplayOfALostPageBeforeABlockWithoutPages: it is not a page of the last block.
func TestReplayOfALostPageBeforeABlockWithoutPages(t *testing.T) {
	v, c := newVolume(t, usual)
	lay(t, v, id(1, 0), journalLabel(t, 1, 0), pageOf(t, groupOf("a")...))
	c.Spoil(0, dataPages[2])
	checkReplay(t, v, 1)
	lay(t, v, id(1, 1))
	checkNoReplay(t, v, 1, api.ErrIO)
}

// TestReplayOfAGroupWhoseEndIsLost: no part of it remains.
func TestReplayOfAGroupWhoseEndIsLost(t *testing.T) {
	v, c := newVolume(t, usual)
	g := groupOf("b", "c", "d")
	lay(t, v, id(1, 0), journalLabel(t, 1, 0), pageOf(t, append(groupOf("a"), g[0])...), pageOf(t, g[1]), pageOf(t, g[2]))
	checkReplay(t, v, 1, groupOf("a"), g)
	c.Spoil(0, dataPages[4])
	checkReplay(t, v, 1, groupOf("a"))
}

func TestReplayWithoutPower(t *testing.T) {
	v, c := newVolume(t, usual)
	lay(t, v, id(1, 0), journalLabel(t, 1, 0), pageOf(t, groupOf("a")...))
	c.Cut(1, 0)
	check(t, "Erase", c.Erase(9), api.ErrPower)
	checkNoReplay(t, v, 1, api.ErrPower)
	c.On()
	checkReplay(t, attached(t, c, usual), 1, groupOf("a"))
}

// TestReplayRestoresLostPages: one of each closed block, with bits that turn.
func TestReplayRestoresLostPages(t *testing.T) {
	for lost := range len(dataPages) {
		v, c := newVolume(t, usual)
		j := journal.New(v, 1)
		var groups [][]node.Node
		for range 3 * usualRoom {
			groups = append(groups, sized(usualBytes, "x"))
			appended(t, j, groups[len(groups)-1])
		}
		ok(t, j.Sync())
		for k := range 3 {
			c.Spoil(k, dataPages[lost])
		}
		c.Noise(lost, 1, 66)
		checkReplay(t, v, 1, groups...)
		checkReplay(t, attached(t, c, usual), 1, groups...)
	}
}
