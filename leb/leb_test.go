package leb_test

import (
	"math"
	"slices"
	"strings"
	"testing"
	"unsafe"

	"chert/api"
	"chert/leb"
	"chert/nand"
	"chert/page"
	"chert/parity"
	"chert/wear"
)

// usual is what most tests use: in single mode a block has a room of 2, otherwise of 4.
var usual = geometry(6, 8, 1, 32, 1)

// geometries is what the broader tests go through.
var geometries = []api.Geometry{
	usual,
	geometry(4, 4, 1, 32, 1),
	geometry(12, 16, 2, 64, 2),
	geometry(3, 12, 1, 25, 8),
	geometry(5, 20, 4, 16, 3),
}

// The numbers of a label's last byte.
const (
	single  = 1
	changed = 2
)

func geometry(blocks, pages, chunks, chunk, t int) api.Geometry {
	return api.Geometry{Blocks: blocks, Pages: pages, Chunks: chunks, Chunk: chunk, T: t}
}

func payloadBytes(g api.Geometry) int { return g.Chunks*g.Chunk - 7 }

func padded(g api.Geometry, payload string) string {
	return payload + strings.Repeat("\x00", payloadBytes(g)-len(payload))
}

func newChip(t *testing.T, g api.Geometry) (*nand.Chip, *page.Pager) {
	t.Helper()
	c, err := page.Chip(g)
	if err != api.OK {
		t.Fatalf("Chip(%v) is %d", g, err)
	}
	p, err := page.New(c, g)
	if err != api.OK {
		t.Fatalf("New of %v is %d", g, err)
	}
	return c, p
}

func attached(t *testing.T, c *nand.Chip, g api.Geometry) *leb.Volume {
	t.Helper()
	v, err := leb.Attach(c, g)
	if v == nil || err != api.OK {
		t.Fatalf("Attach is %v, %d", v, err)
	}
	return v
}

func newVolume(t *testing.T, g api.Geometry) (*leb.Volume, *nand.Chip, *page.Pager) {
	t.Helper()
	c, p := newChip(t, g)
	return attached(t, c, g), c, p
}

func check(t *testing.T, what string, got, want api.Errno) {
	t.Helper()
	if got != want {
		t.Fatalf("%s is %d, not %d", what, got, want)
	}
}

func ok(t *testing.T, errs ...api.Errno) {
	t.Helper()
	for i, err := range errs {
		if err != api.OK {
			t.Fatalf("call %d is %d", i, err)
		}
	}
}

func checkIDs(t *testing.T, v *leb.Volume, want ...int) {
	t.Helper()
	if got := v.IDs(); !slices.Equal(got, want) {
		t.Fatalf("IDs is %v, not %v", got, want)
	}
}

func checkCount(t *testing.T, v *leb.Volume, id, count int, closed bool) {
	t.Helper()
	if n, c := v.Count(id); n != count || c != closed {
		t.Fatalf("Count(%d) is %d, %v, not %d, %v", id, n, c, count, closed)
	}
}

// checkPages: a logical block has just these pages.
func checkPages(t *testing.T, v *leb.Volume, g api.Geometry, id int, closed bool, payloads ...string) {
	t.Helper()
	checkCount(t, v, id, len(payloads), closed)
	for n, payload := range payloads {
		checkRead(t, v, id, n, padded(g, payload), api.OK)
	}
	checkRead(t, v, id, len(payloads), "", api.ErrNone)
}

func checkRead(t *testing.T, v *leb.Volume, id, n int, want string, wantErr api.Errno) {
	t.Helper()
	if got, err := v.Read(id, n); got != want || err != wantErr {
		t.Fatalf("Read(%d, %d) is %q, %d, not %q, %d", id, n, got, err, want, wantErr)
	}
}

// blockOf: the only block of the chip that is Used.
func blockOf(t *testing.T, v *leb.Volume) int {
	t.Helper()
	found := slices.IndexFunc(v.Blocks(), func(b wear.Block) bool { return b.Used })
	if found < 0 {
		t.Fatal("no block is used")
	}
	return found
}

func checkUsed(t *testing.T, v *leb.Volume, want ...int) {
	t.Helper()
	var used []int
	for b, block := range v.Blocks() {
		if block.Used {
			used = append(used, b)
		}
	}
	if !slices.Equal(used, want) {
		t.Fatalf("blocks %v are used, not %v", used, want)
	}
}

func checkWorn(t *testing.T, v *leb.Volume, want ...int) {
	t.Helper()
	var worn []int
	for b, block := range v.Blocks() {
		if block.Worn {
			worn = append(worn, b)
		}
	}
	if !slices.Equal(worn, want) {
		t.Fatalf("blocks %v are worn, not %v", worn, want)
	}
}

// labelText: the bytes of a label, without the padding.
func labelText(id, turn uint64, flags byte) string {
	text := []byte("L")
	for _, n := range []uint64{id, turn} {
		for shift := 56; shift >= 0; shift -= 8 {
			text = append(text, byte(n>>shift))
		}
	}
	return string(append(text, flags))
}

// lay writes pages of a block from the first one on; one that is "-" is left out.
func lay(t *testing.T, p *page.Pager, b int, payloads ...string) {
	t.Helper()
	for n, payload := range payloads {
		if payload == "-" {
			continue
		}
		if err := p.Write(b, n, payload); err != api.OK {
			t.Fatalf("Write(%d, %d) is %d", b, n, err)
		}
	}
}

func mustFind(t *testing.T, p *page.Pager, b, n int) page.Found {
	t.Helper()
	found, err := p.Read(b, n)
	if err != api.OK {
		t.Fatalf("page %d of block %d: %d", n, b, err)
	}
	return found
}

// turnOn: the turn of the label on a block.
func turnOn(t *testing.T, p *page.Pager, b int) int {
	t.Helper()
	found := mustFind(t, p, b, 0)
	if found.State != page.Good || found.Payload[0] != 'L' {
		t.Fatalf("block %d has no label", b)
	}
	turn := 0
	for _, c := range []byte(found.Payload[9:17]) {
		turn = turn<<8 | int(c)
	}
	return turn
}

func TestExample(t *testing.T) {
	v, c, _ := newVolume(t, usual)
	if pages, bytes := v.Room(true); pages != 2 || bytes != 25 {
		t.Errorf("Room is %d, %d", pages, bytes)
	}
	ok(t, v.Map(5, true), v.Append(5, "one"), v.Append(5, "two"))
	checkPages(t, v, usual, 5, true, "one", "two")
	c.Spoil(blockOf(t, v), 4)
	checkPages(t, v, usual, 5, true, "one", "two")
}

func TestAttachRefuses(t *testing.T) {
	c, _ := newChip(t, usual)
	raw, _ := page.Raw(usual)
	chip := func(blocks, pages, bytes int) *nand.Chip {
		c, err := nand.New(blocks, pages, bytes)
		if err != api.OK {
			t.Fatalf("New is %d", err)
		}
		return c
	}
	small := geometry(6, 8, 1, 24, 1) // payloads of 17 bytes
	smallChip, _ := newChip(t, small)
	off, _ := newChip(t, usual)
	off.Cut(1, 0)
	off.Erase(0)
	for i, a := range []struct {
		c    *nand.Chip
		g    api.Geometry
		want api.Errno
	}{
		{nil, usual, api.ErrArg},
		{c, api.Geometry{}, api.ErrArg},
		{c, geometry(6, 7, 1, 32, 1), api.ErrArg},
		{c, geometry(6, 8, 1, 32, 9), api.ErrArg},
		{c, geometry(math.MinInt, math.MaxInt, 1, 32, 1), api.ErrArg},
		{smallChip, small, api.ErrArg},
		{chip(7, 8, raw), usual, api.ErrArg},
		{chip(5, 8, raw), usual, api.ErrArg},
		{chip(6, 12, raw), usual, api.ErrArg},
		{chip(6, 4, raw), usual, api.ErrArg},
		{chip(6, 8, raw+1), usual, api.ErrArg},
		{chip(6, 8, raw-1), usual, api.ErrArg},
		{off, usual, api.ErrPower},
		{off, geometry(7, 8, 1, 32, 1), api.ErrArg},
	} {
		if v, err := leb.Attach(a.c, a.g); v != nil || err != a.want {
			t.Errorf("Attach %d is %v, %d, not %d", i, v, err, a.want)
		}
	}
	least := geometry(6, 8, 1, 25, 1)
	v, _, _ := newVolume(t, least)
	if _, bytes := v.Room(false); bytes != 18 {
		t.Errorf("the least payload has %d bytes", bytes)
	}
}

func TestNewVolume(t *testing.T) {
	for _, g := range geometries {
		v, c, _ := newVolume(t, g)
		checkIDs(t, v)
		if c.Changes() != 0 {
			t.Errorf("%v: %d changes", g, c.Changes())
		}
		for _, one := range []bool{true, false} {
			plan, _ := parity.Of(g.Pages, one)
			if pages, bytes := v.Room(one); pages != len(plan.Data)-1 || bytes != payloadBytes(g) {
				t.Errorf("%v: Room(%v) is %d, %d", g, one, pages, bytes)
			}
		}
		if blocks := v.Blocks(); len(blocks) != g.Blocks {
			t.Errorf("%v: %d blocks", g, len(blocks))
		}
		checkUsed(t, v)
		checkWorn(t, v)
	}
}

func TestLayout(t *testing.T) {
	for _, g := range geometries {
		for _, one := range []bool{true, false} {
			v, c, p := newVolume(t, g)
			plan, _ := parity.Of(g.Pages, one)
			flags := byte(0)
			if one {
				flags = single
			}
			label := labelText(258, 1, flags)
			ok(t, v.Map(258, one))
			data := []string{label}
			for n := range (len(plan.Data) - 1) / 2 {
				payload := strings.Repeat(string(rune('a'+n)), n+1)
				ok(t, v.Append(258, payload))
				data = append(data, payload)
			}
			if len(plan.Data) > 1 {
				checkCount(t, v, 258, len(data)-1, false)
				ok(t, v.Close(258))
			}
			checkLayout(t, p, g, plan, 0, data)
			if c.Changes() != len(data)+len(plan.Parity) {
				t.Errorf("%v: %d changes", g, c.Changes())
			}
		}
	}
}

// checkLayout: a closed block of the chip has just these data pages, and their parities.
func checkLayout(t *testing.T, p *page.Pager, g api.Geometry, plan parity.Plan, b int, data []string) {
	t.Helper()
	want := make([]string, g.Pages)
	sums := []string{"", ""}
	for i, payload := range data {
		n := plan.Data[i]
		want[n] = padded(g, payload)
		sums[n/2%2] = parity.Xor(payloadBytes(g), sums[n/2%2], payload)
	}
	for group, n := range plan.Parity {
		want[n] = padded(g, sums[group])
	}
	for n, payload := range want {
		found := mustFind(t, p, b, n)
		if found.Payload != payload || (found.State == page.Empty) != (payload == "") {
			t.Errorf("%v: page %d is %d, %q, not %q", g, n, found.State, found.Payload, payload)
		}
	}
}

func TestLayoutOfChange(t *testing.T) {
	for _, g := range geometries {
		for _, one := range []bool{true, false} {
			v, c, p := newVolume(t, g)
			plan, _ := parity.Of(g.Pages, one)
			flags := byte(changed)
			if one {
				flags += single
			}
			for count := range len(plan.Data) {
				var payloads []string
				for n := range count {
					payloads = append(payloads, strings.Repeat(string(rune('z'-n)), payloadBytes(g)-n))
				}
				before := slices.Clone(payloads)
				changes := c.Changes()
				ok(t, v.Change(9, one, payloads...))
				if !slices.Equal(payloads, before) {
					t.Error("the payloads were changed")
				}
				checkPages(t, v, g, 9, true, payloads...)
				data := append([]string{labelText(9, uint64(count+1), flags)}, payloads...)
				checkLayout(t, p, g, plan, blockOf(t, v), data)
				changes += len(data) + len(plan.Parity)
				if count > 0 { // and the block before it was erased, but the new one had been
					changes++
				}
				if c.Changes() != changes {
					t.Errorf("%v: %d changes, not %d", g, c.Changes(), changes)
				}
				checkPages(t, attached(t, c, g), g, 9, true, payloads...)
			}
		}
	}
}

func TestMap(t *testing.T) {
	v, c, _ := newVolume(t, usual)
	for _, id := range []int{-1, math.MinInt, api.MaxNumber + 1, math.MaxInt} {
		check(t, "Map of no id", v.Map(id, true), api.ErrArg)
	}
	for b, id := range []int{api.MaxNumber, 0, 5, 4} {
		ok(t, v.Map(id, b%2 == 0))
		checkCount(t, v, id, 0, false)
		checkRead(t, v, id, 0, "", api.ErrNone)
		check(t, "Map again", v.Map(id, true), api.ErrExists)
	}
	checkIDs(t, v, 0, 4, 5, api.MaxNumber)
	checkUsed(t, v, 0, 1, 2, 3)
	ok(t, v.Map(1, true), v.Map(2, true))
	changes := c.Changes()
	check(t, "Map without a block", v.Map(3, true), api.ErrFull)
	check(t, "Map again without a block", v.Map(5, true), api.ErrExists)
	check(t, "Map of no id without a block", v.Map(-1, true), api.ErrArg)
	check(t, "Change without a block", v.Change(5, true), api.ErrFull)
	checkIDs(t, v, 0, 1, 2, 4, 5, api.MaxNumber)
	if changes != 6 || c.Changes() != changes {
		t.Errorf("%d changes, then %d", changes, c.Changes())
	}
}

func TestMapWithoutRoom(t *testing.T) {
	g := geometries[1]
	for _, one := range []bool{true, false} {
		v, c, _ := newVolume(t, g)
		if pages, _ := v.Room(one); pages != 0 {
			t.Fatalf("room for %d pages", pages)
		}
		ok(t, v.Map(7, one))
		checkPages(t, v, g, 7, true)
		check(t, "Append", v.Append(7, "x"), api.ErrClosed)
		check(t, "Close", v.Close(7), api.ErrClosed)
		check(t, "Change", v.Change(7, one, "x"), api.ErrLong)
		ok(t, v.Change(7, one))
		checkPages(t, attached(t, c, g), g, 7, true)
	}
}

// TestAllocationErasesOnlyWhatWasUsed counts the erases of the blocks.
func TestAllocationErasesOnlyWhatWasUsed(t *testing.T) {
	v, c, p := newVolume(t, geometry(1, 8, 1, 32, 1))
	checkErases := func(want int) {
		t.Helper()
		if erases, _ := c.Counts(0); erases != want {
			t.Fatalf("%d erases, not %d", erases, want)
		}
	}
	ok(t, v.Map(1, true))
	checkErases(0)
	ok(t, v.Unmap(1))
	checkErases(1)
	ok(t, v.Map(2, true), v.Append(2, "x"))
	checkErases(1)
	ok(t, v.Unmap(2))
	for _, n := range []int{0, 3, 7} { // no label, but written
		p.Write(0, n, "x")
		v = attached(t, c, geometry(1, 8, 1, 32, 1))
		ok(t, v.Map(1, false), v.Unmap(1))
		ok(t, v.Map(1, true), v.Unmap(1))
	}
	checkErases(2 + 3*3)
	for m := range 3 { // what a torn write leaves
		c.Cut(1, m)
		check(t, "Map", v.Map(1, true), api.ErrPower)
		c.On()
		v = attached(t, c, geometry(1, 8, 1, 32, 1))
		if m == 2 {
			checkIDs(t, v, 1)
			ok(t, v.Unmap(1))
		} else {
			checkIDs(t, v)
		}
		erases, _ := c.Counts(0)
		ok(t, v.Map(1, true))
		checkErases(erases + (3-m)/2) // 1, 1, and none
		ok(t, v.Append(1, "x"))
		checkPages(t, v, usual, 1, false, "x")
		ok(t, v.Unmap(1))
	}
}

func TestAllocationTakesTheLeastErased(t *testing.T) {
	v, c, _ := newVolume(t, usual)
	for b, times := range []int{3, 1, 2, 1, 4, 0} {
		for range times {
			c.Erase(b)
		}
	}
	want := []int{5, 1, 3, 2, 0, 4}
	for id, b := range want {
		if got := wear.Pick(v.Blocks()); got != b {
			t.Fatalf("Pick is %d, not %d", got, b)
		}
		ok(t, v.Map(id, true))
		if !v.Blocks()[b].Used {
			t.Fatalf("Map %d is not on block %d", id, b)
		}
	}
}

func TestAllocationPassesWornBlocks(t *testing.T) {
	for _, change := range []bool{false, true} {
		v, c, _ := newVolume(t, usual)
		call := func(id int) api.Errno {
			if change {
				return v.Change(id, true, "x")
			}
			return v.Map(id, true)
		}
		for _, b := range []int{0, 1, 3} {
			c.Wear(b)
		}
		checkWorn(t, v)
		ok(t, call(1))
		checkUsed(t, v, 2)
		checkWorn(t, v, 0, 1)
		ok(t, call(2))
		checkUsed(t, v, 2, 4)
		checkWorn(t, v, 0, 1, 3)
		c.Wear(5)
		check(t, "a call with worn blocks alone", call(3), api.ErrFull)
		checkWorn(t, v, 0, 1, 3, 5)
		checkIDs(t, v, 1, 2)
		checkWorn(t, attached(t, c, usual))
	}
}

func TestAppend(t *testing.T) {
	v, _, _ := newVolume(t, usual)
	long := strings.Repeat("x", 26)
	check(t, "Append", v.Append(3, "a"), api.ErrUnmapped)
	check(t, "Append", v.Append(-1, long), api.ErrUnmapped)
	ok(t, v.Map(3, false))
	check(t, "Append", v.Append(3, long), api.ErrLong)
	checkCount(t, v, 3, 0, false)
	payloads := []string{"", strings.Repeat("\xff", 25), "b", "c"}
	for n, payload := range payloads {
		checkPages(t, v, usual, 3, false, payloads[:n]...)
		ok(t, v.Append(3, payload))
	}
	checkPages(t, v, usual, 3, true, payloads...)
	check(t, "Append", v.Append(3, long), api.ErrClosed)
	check(t, "Append", v.Append(3, ""), api.ErrClosed)
	check(t, "Close", v.Close(3), api.ErrClosed)
	checkPages(t, v, usual, 3, true, payloads...)
}

func TestClose(t *testing.T) {
	v, c, _ := newVolume(t, usual)
	check(t, "Close", v.Close(3), api.ErrUnmapped)
	ok(t, v.Map(3, true), v.Map(4, false), v.Append(4, "x"))
	ok(t, v.Close(3), v.Close(4))
	checkPages(t, v, usual, 3, true)
	checkPages(t, v, usual, 4, true, "x")
	for _, id := range []int{3, 4} {
		check(t, "Close again", v.Close(id), api.ErrClosed)
		check(t, "Append", v.Append(id, "x"), api.ErrClosed)
	}
	checkCount(t, v, 5, 0, false)
	checkCount(t, v, -1, 0, false)
	v = attached(t, c, usual)
	checkIDs(t, v, 3, 4)
	checkPages(t, v, usual, 3, true)
	checkPages(t, v, usual, 4, true, "x")
}

func TestWornWhileOpen(t *testing.T) {
	for _, one := range []bool{true, false} {
		for _, call := range []func(v *leb.Volume) api.Errno{
			func(v *leb.Volume) api.Errno { return v.Append(1, "y") },
			func(v *leb.Volume) api.Errno { return v.Close(1) },
		} {
			v, c, _ := newVolume(t, usual)
			ok(t, v.Map(1, one), v.Append(1, "x"))
			c.Wear(0)
			check(t, "Append of too much", v.Append(1, strings.Repeat("x", 26)), api.ErrLong)
			checkWorn(t, v)
			checkCount(t, v, 1, 1, false)
			check(t, "a call with a worn block", call(v), api.ErrWorn)
			checkWorn(t, v, 0)
			checkPages(t, v, usual, 1, true, "x")
			check(t, "Append", v.Append(1, "y"), api.ErrClosed)
			check(t, "Close", v.Close(1), api.ErrClosed)
			c.Spoil(0, 1)
			checkRead(t, v, 1, 0, "", api.ErrIO)
			checkUsed(t, v, 0)
		}
	}
}

func TestRead(t *testing.T) {
	v, c, _ := newVolume(t, usual)
	checkRead(t, v, 3, 0, "", api.ErrUnmapped)
	checkRead(t, v, -1, -1, "", api.ErrUnmapped)
	ok(t, v.Map(3, false), v.Append(3, "one"))
	for _, n := range []int{-1, math.MinInt, 1, 2, math.MaxInt} {
		checkRead(t, v, 3, n, "", api.ErrNone)
	}
	_, before := c.Counts(0)
	checkRead(t, v, 3, 0, padded(usual, "one"), api.OK)
	if _, after := c.Counts(0); after != before+1 {
		t.Errorf("a Read of a Good page is %d reads", after-before)
	}
	c.Spoil(0, 1)
	checkRead(t, v, 3, 0, "", api.ErrIO)
}

// TestReadOfLostPages: every set of pages of a closed block is spoilt once.
func TestReadOfLostPages(t *testing.T) {
	for _, one := range []bool{true, false} {
		plan, _ := parity.Of(usual.Pages, one)
		for count := range len(plan.Data) {
			payloads := []string{"one", "two!", "three", "4"}[:count]
			for lost := range 1 << usual.Pages {
				v, c, _ := newVolume(t, usual)
				ok(t, v.Change(1, one, payloads...))
				lostIn := [2]int{}
				for n := range usual.Pages {
					written := slices.Contains(plan.Parity, n) || slices.Contains(plan.Data[:count+1], n)
					if lost>>n&1 == 1 && written {
						c.Spoil(0, n)
						lostIn[n/2%2]++
					}
				}
				for i, payload := range payloads {
					n := plan.Data[i+1]
					if lost>>n&1 == 0 || lostIn[n/2%2] == 1 {
						checkRead(t, v, 1, i, padded(usual, payload), api.OK)
					} else {
						checkRead(t, v, 1, i, "", api.ErrIO)
					}
				}
			}
		}
	}
}

// TestReadWithoutParities: a block that was open when the power went off, with a parity page that isn't its own.
func TestReadWithoutParities(t *testing.T) {
	c, p := newChip(t, usual)
	sum := parity.Xor(25, labelText(1, 1, 0), "x")
	lay(t, p, 0, labelText(1, 1, 0), "x", "-", "-", "-", sum)
	v := attached(t, c, usual)
	checkPages(t, v, usual, 1, true, "x")
	c.Spoil(0, 1)
	checkRead(t, v, 1, 0, "", api.ErrIO)
}

// TestReadNeedsTheWholeGroup: a page of it that reads as an empty one isn't Good either.
func TestReadNeedsTheWholeGroup(t *testing.T) {
	v, c, p := newVolume(t, usual)
	ok(t, v.Change(1, true, "one", "two"))
	ok(t, c.Erase(0))
	lay(t, p, 0, labelText(1, 1, single+changed), "one", "-", "-", "-", parity.Xor(25, labelText(1, 1, 3), "one", "two"))
	checkRead(t, v, 1, 1, "", api.ErrIO)
	checkRead(t, v, 1, 0, padded(usual, "one"), api.OK)
	c.Spoil(0, 1)
	checkRead(t, v, 1, 0, "", api.ErrIO)
}

func TestUnmap(t *testing.T) {
	v, c, _ := newVolume(t, usual)
	check(t, "Unmap", v.Unmap(1), api.ErrUnmapped)
	ok(t, v.Map(1, true), v.Map(2, true), v.Append(2, "x"), v.Unmap(1))
	check(t, "Unmap", v.Unmap(1), api.ErrUnmapped)
	check(t, "Append", v.Append(1, "x"), api.ErrUnmapped)
	checkRead(t, v, 1, 0, "", api.ErrUnmapped)
	checkCount(t, v, 1, 0, false)
	checkIDs(t, v, 2)
	checkUsed(t, v, 1)
	if erases, _ := c.Counts(0); erases != 1 {
		t.Errorf("%d erases", erases)
	}
	checkIDs(t, attached(t, c, usual), 2)
	ok(t, v.Map(1, true))
	checkPages(t, v, usual, 1, false)
}

func TestUnmapOfAWornBlock(t *testing.T) {
	v, c, _ := newVolume(t, usual)
	ok(t, v.Change(1, true, "x"))
	c.Wear(0)
	ok(t, v.Unmap(1))
	checkIDs(t, v)
	checkUsed(t, v)
	checkWorn(t, v, 0)
	ok(t, v.Map(2, true))
	checkUsed(t, v, 1)
	v = attached(t, c, usual)
	checkIDs(t, v, 1, 2)
	checkPages(t, v, usual, 1, true, "x")
}

func TestChangeArguments(t *testing.T) {
	v, c, _ := newVolume(t, usual)
	fits, long := strings.Repeat("x", 25), strings.Repeat("x", 26)
	for _, id := range []int{-1, math.MinInt, api.MaxNumber + 1} {
		check(t, "Change of no id", v.Change(id, true, long), api.ErrArg)
	}
	check(t, "Change with too many payloads", v.Change(0, true, "", "", ""), api.ErrLong)
	check(t, "Change with too many payloads", v.Change(0, false, "", "", "", "", ""), api.ErrLong)
	check(t, "Change with a long payload", v.Change(0, true, fits, long), api.ErrLong)
	if c.Changes() != 0 {
		t.Errorf("%d changes", c.Changes())
	}
	ok(t, v.Change(0, true, "", fits), v.Change(api.MaxNumber, false, "", "", "", fits))
	checkPages(t, v, usual, 0, true, "", fits)
	checkPages(t, v, usual, api.MaxNumber, true, "", "", "", fits)
	for id := 1; id <= 4; id++ {
		ok(t, v.Map(id, true))
	}
	check(t, "Change with a long payload", v.Change(0, true, long), api.ErrLong)
	check(t, "Change without a block", v.Change(0, true, "y"), api.ErrFull)
	checkPages(t, v, usual, 0, true, "", fits)
}

func TestChangeReplaces(t *testing.T) {
	v, c, _ := newVolume(t, usual)
	ok(t, v.Map(1, false), v.Append(1, "open"), v.Map(2, true))
	ok(t, v.Change(1, true, "a", "b"))
	checkUsed(t, v, 1, 2)
	checkPages(t, v, usual, 1, true, "a", "b")
	check(t, "Append", v.Append(1, "c"), api.ErrClosed)
	ok(t, v.Change(1, false))
	checkUsed(t, v, 1, 3)
	checkPages(t, v, usual, 1, true)
	checkIDs(t, v, 1, 2)
	for b, want := range []int{1, 0, 1, 0} {
		if erases, _ := c.Counts(b); erases != want {
			t.Errorf("block %d: %d erases", b, erases)
		}
	}
}

func TestChangeOfAWornBlock(t *testing.T) {
	v, c, _ := newVolume(t, usual)
	ok(t, v.Change(1, true, "old"))
	c.Wear(0)
	ok(t, v.Change(1, true, "new"))
	checkPages(t, v, usual, 1, true, "new")
	checkWorn(t, v, 0)
	checkUsed(t, v, 1)
	v = attached(t, c, usual) // it can't erase the old one either
	checkPages(t, v, usual, 1, true, "new")
	checkUsed(t, v, 1)
	checkWorn(t, v, 0)
	ok(t, v.Unmap(1))
	checkPages(t, attached(t, c, usual), usual, 1, true, "old")
}

func TestBlocks(t *testing.T) {
	v, c, _ := newVolume(t, usual)
	ok(t, v.Map(1, true), v.Append(1, "x"), v.Map(2, true), v.Unmap(2))
	c.Erase(4)
	for range 3 {
		v.Read(1, 0)
	}
	for b, block := range v.Blocks() {
		erases, reads := c.Counts(b)
		if block != (wear.Block{Erases: erases, Reads: reads, Used: b == 0}) {
			t.Errorf("block %d is %v", b, block)
		}
	}
	blocks := v.Blocks()
	if blocks[0].Reads < 3 || blocks[4].Erases != 1 || blocks[1].Erases != 1 {
		t.Errorf("Blocks is %v", blocks)
	}
	blocks[0].Used = false
	checkUsed(t, v, 0)
}

func TestTurnsRise(t *testing.T) {
	v, c, p := newVolume(t, usual)
	ok(t, v.Map(1, true), v.Change(2, true), v.Map(3, false), v.Unmap(3), v.Change(2, true))
	last := 0
	for _, again := range []bool{false, true, true} {
		if again {
			v = attached(t, c, usual)
		}
		ok(t, v.Unmap(1), v.Map(1, true))
		greatest := 0
		for b, block := range v.Blocks() {
			if block.Used {
				greatest = max(greatest, turnOn(t, p, b))
			}
		}
		if greatest <= last {
			t.Errorf("a turn of %d after %d", greatest, last)
		}
		last = greatest
	}
}

// TestTurnsOfLabelsThatAreNotUsed: they were met too.
func TestTurnsOfLabelsThatAreNotUsed(t *testing.T) {
	for name, flags := range map[string]byte{"Change's without parities": changed, "an older one": 0} {
		c, p := newChip(t, usual)
		lay(t, p, 0, labelText(1, 700, flags))
		lay(t, p, 1, labelText(1, 700-uint64(flags), 0))
		v := attached(t, c, usual)
		ok(t, v.Map(2, true))
		if turn := turnOn(t, p, 2); turn <= 700 {
			t.Errorf("%s: the next turn is %d", name, turn)
		}
	}
}

func TestTheLastTurn(t *testing.T) {
	for _, flags := range []byte{0, single, changed} {
		c, p := newChip(t, usual)
		lay(t, p, 0, labelText(1, api.MaxNumber, flags), "x")
		v := attached(t, c, usual)
		check(t, "Map", v.Map(2, true), api.ErrFull)
		check(t, "Change", v.Change(1, true), api.ErrFull)
		if flags != changed {
			ok(t, v.Unmap(1))
			check(t, "Map", v.Map(1, true), api.ErrFull)
		}
		c, p = newChip(t, usual)
		lay(t, p, 0, labelText(1, api.MaxNumber-1, 0), "x")
		v = attached(t, c, usual)
		ok(t, v.Map(2, true))
		if turn := turnOn(t, p, 1); turn != api.MaxNumber {
			t.Errorf("the last turn is %d", turn)
		}
		check(t, "Map", v.Map(3, true), api.ErrFull)
		check(t, "Map", v.Map(2, true), api.ErrExists)
		check(t, "Change", v.Change(2, true), api.ErrFull)
	}
}

func TestNilVolume(t *testing.T) {
	var v *leb.Volume
	check(t, "Map", v.Map(1, true), api.ErrArg)
	check(t, "Append", v.Append(1, ""), api.ErrArg)
	check(t, "Close", v.Close(1), api.ErrArg)
	check(t, "Unmap", v.Unmap(1), api.ErrArg)
	check(t, "Change", v.Change(1, true, "x"), api.ErrArg)
	checkRead(t, v, 1, 0, "", api.ErrArg)
	checkCount(t, v, 1, 0, false)
	if pages, bytes := v.Room(true); pages != 0 || bytes != 0 {
		t.Errorf("Room is %d, %d", pages, bytes)
	}
	if len(v.IDs()) != 0 || len(v.Blocks()) != 0 {
		t.Error("IDs or Blocks")
	}
}

func TestResultsAreNew(t *testing.T) {
	v, c, _ := newVolume(t, usual)
	payload := strings.Repeat("x", 25)
	ok(t, v.Change(1, true, payload))
	for range 2 { // of a Good page, then of a lost one
		first, _ := v.Read(1, 0)
		second, _ := v.Read(1, 0)
		a, b := unsafe.StringData(first), unsafe.StringData(second)
		if given := unsafe.StringData(payload); a == b || a == given || b == given {
			t.Error("a result shares memory")
		}
		c.Spoil(0, 1)
	}
	ids := v.IDs()
	ids[0] = 9
	checkIDs(t, v, 1)
}
