package journal_test

import (
	"strings"
	"testing"

	"chert/api"
	"chert/journal"
	"chert/node"
	"chert/wear"
)

// checkEnded: Append and Sync tell the error from now on, and nothing changes.
func checkEnded(t *testing.T, j *journal.Journal, want api.Errno) {
	t.Helper()
	used := j.Used()
	for range 2 {
		checkNoAppend(t, j, groupOf("x"), want)
		check(t, "Sync", j.Sync(), want)
		checkNoAppend(t, j, nil, api.ErrArg) // the chapter mentions it first
	}
	checkUsed(t, j, used)
}

func TestNoBlockIsLeft(t *testing.T) {
	v, c := newVolume(t, usual)
	j := journal.New(v, 1)
	for k := range 100 {
		for range usualRoom {
			appended(t, j, sized(usualBytes, "x"))
		}
		checkUsed(t, j, k+1)
		if k > 0 { // a chip has fewer blocks than a journal
			ok(t, v.Unmap(id(1, k-1)))
		}
	}
	last := journal.Place{ID: id(1, 99), Page: usualRoom}
	checkRead(t, j, last, sized(usualBytes, "x")[0], api.OK)
	changes := c.Changes()
	checkNoAppend(t, j, groupOf("y"), api.ErrFull)
	if c.Changes() != changes+2 { // the page that was held, and the parity of its block
		t.Errorf("%d changes", c.Changes()-changes)
	}
	checkEnded(t, j, api.ErrFull)
	checkUsed(t, j, 100)
	checkRead(t, j, last, sized(usualBytes, "x")[0], api.OK)
	if c.Changes() != changes+2 {
		t.Error("the chip changes after the end")
	}
}

func TestTheVolumeIsFull(t *testing.T) {
	v, c := newVolume(t, usual)
	for b := range usual.Blocks - 1 {
		ok(t, v.Change(5000+b, true, "x"))
	}
	j := journal.New(v, 1)
	var groups [][]node.Node
	var places [][]journal.Place
	for range usualRoom {
		groups = append(groups, sized(usualBytes, "x"))
		places = append(places, appended(t, j, groups[len(groups)-1]))
	}
	checkNoAppend(t, j, groupOf("y", "z"), api.ErrFull)
	ok(t, v.Unmap(5000))
	checkEnded(t, j, api.ErrFull)
	for i, group := range groups {
		checkGroup(t, j, group, places[i])
	}
	checkReplay(t, attached(t, c, usual), 1, groups...)
}

func TestTheBlockExists(t *testing.T) {
	v, _ := newVolume(t, usual)
	ok(t, v.Map(id(1, 0), true))
	j := journal.New(v, 1)
	checkNoAppend(t, j, groupOf("a"), api.ErrExists)
	checkUsed(t, j, 0)
	ok(t, v.Unmap(id(1, 0)))
	checkEnded(t, j, api.ErrExists)
}

// TestTheLabelDoesNotFit: the block is mapped, but of no use.
func TestTheLabelDoesNotFit(t *testing.T) {
	narrow, flat := usual, usual
	narrow.Chunk = 32
	flat.Pages = 4
	for want, g := range map[api.Errno]api.Geometry{api.ErrLong: narrow, api.ErrClosed: flat} {
		v, _ := newVolume(t, g)
		j := journal.New(v, 1)
		checkNoAppend(t, j, groupOf("a"), want)
		checkUsed(t, j, 1)
		checkEnded(t, j, want)
	}
}

// blockOnChip: where the logical block lies that was mapped first on a new chip.
const blockOnChip = 0

func TestTheBlockIsWorn(t *testing.T) {
	for name, end := range map[string]func(j *journal.Journal) api.Errno{
		"Sync":   (*journal.Journal).Sync,
		"Append": func(j *journal.Journal) api.Errno { _, err := j.Append(groupOf("c", "d", "e")); return err },
	} {
		v, c := newVolume(t, usual)
		j := journal.New(v, 1)
		a, b := groupOf("a"), groupOf("b")
		written := appended(t, j, a)
		ok(t, j.Sync())
		held := appended(t, j, b)
		c.Wear(blockOnChip)
		check(t, name, end(j), api.ErrWorn)
		checkEnded(t, j, api.ErrWorn)
		checkGroup(t, j, a, written)
		checkGroup(t, j, b, held)
		// what the call that failed would have laid behind is no node
		checkRead(t, j, journal.Place{ID: held[0].ID, Page: held[0].Page, At: plainBytes + 1}, node.Node{}, api.ErrNone)
		checkReplay(t, v, 1, a)
		checkReplay(t, attached(t, c, usual), 1, a)
	}
}

// TestAWornBlockIsPassedOver: layer 9 finds another one for the next block.
func TestAWornBlockIsPassedOver(t *testing.T) {
	v, c := newVolume(t, usual)
	j := journal.New(v, 1)
	c.Wear(wear.Pick(v.Blocks()))
	places := appended(t, j, groupOf("a"))
	ok(t, j.Sync())
	checkGroup(t, j, groupOf("a"), places)
	checkReplay(t, v, 1, groupOf("a"))
}

func TestThePowerIsOff(t *testing.T) {
	v, c := newVolume(t, usual)
	j := journal.New(v, 1)
	c.Cut(1, 0)
	checkNoAppend(t, j, groupOf("a"), api.ErrPower)
	checkUsed(t, j, 0)
	c.On()
	checkEnded(t, j, api.ErrPower)

	v = attached(t, c, usual)
	j = journal.New(v, 1)
	a, b, d := groupOf("a"), groupOf("b"), sized(usualBytes, "d")
	written := appended(t, j, a)
	ok(t, j.Sync())
	held := appended(t, j, b)
	c.Cut(1, 0)
	checkNoAppend(t, j, d, api.ErrPower)
	checkRead(t, j, written[0], node.Node{}, api.ErrPower)
	checkGroup(t, j, b, held)
	c.On()
	checkEnded(t, j, api.ErrPower)
	checkReplay(t, attached(t, c, usual), 1, a)
}

// TestAFailedGroupIsNotHeld, and what stood before it is still held if its page could not be written, and otherwise is on the chip, without power.
func TestAFailedGroupIsNotHeld(t *testing.T) {
	for _, c := range []struct {
		changes  int
		read     api.Errno
		replayed [][]node.Node
	}{
		{1, api.OK, nil},
		{2, api.ErrPower, [][]node.Node{groupOf("a")}},
	} {
		v, chip := newVolume(t, usual)
		j := journal.New(v, 1)
		first := appended(t, j, groupOf("a"))[0]
		chip.Cut(c.changes, 1)
		checkNoAppend(t, j, groupOf("b", "c", strings.Repeat("d", 30), strings.Repeat("e", 30)), api.ErrPower)
		_, err := j.Read(first)
		check(t, "Read", err, c.read)
		if _, err := j.Read(journal.Place{ID: first.ID, Page: first.Page, At: plainBytes + 1}); err == api.OK {
			t.Error("a node of the group that failed is held")
		}
		chip.On()
		checkReplay(t, attached(t, chip, usual), 1, c.replayed...)
	}
}
