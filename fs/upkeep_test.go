package fs_test

import (
	"testing"

	"chert/api"
	"chert/fs"
	"chert/nand"
	"chert/wear"
)

// readOften reads pages of a block, or of all if there is no such one.
func readOften(c *nand.Chip, g api.Geometry, block, times int) {
	for b := range g.Blocks {
		for range times {
			if b == block || block < 0 {
				c.Read(b, 0)
			}
		}
	}
}

// usedBlock: one on which something lies.
func usedBlock(f *fs.FS) int {
	for b, block := range f.Blocks() {
		if block.Used {
			return b
		}
	}
	return -1
}

func readsOf(c *nand.Chip, b int) int {
	_, reads := c.Counts(b)
	return reads
}

// checkTick: does a Tick write everything anew?
func checkTick(t *testing.T, f *fs.FS, c *nand.Chip, want bool) {
	t.Helper()
	changes := c.Changes()
	ok(t, f.Tick())
	if c.Changes() > changes != want {
		t.Fatalf("Tick makes %d changes", c.Changes()-changes)
	}
}

func TestTickOfBlocksThatWereReadOften(t *testing.T) {
	for block := range usual.Blocks {
		f, c := formatted(t, usual)
		ok(t, f.Create("/f"), f.Write("/f", 0, "abc"), f.Sync())
		readOften(c, usual, block, 2000-readsOf(c, block))
		checkTick(t, f, c, false)
		readOften(c, usual, block, 1)
		checkTick(t, f, c, true)
		checkRested(t, c)
		checkTick(t, f, c, false)
		checkRead(t, f, "/f", 0, 9, "abc", api.OK)
		checkRead(t, mounted(t, c, usual), "/f", 0, 9, "abc", api.OK)
	}
}

func checkRested(t *testing.T, c *nand.Chip) {
	t.Helper()
	for b := range usual.Blocks {
		if n := readsOf(c, b); n > 2000 {
			t.Fatalf("block %d was read %d times", b, n)
		}
	}
}

// TestTickOfAllBlocks: free blocks are read by Mount too.
func TestTickOfAllBlocks(t *testing.T) {
	f, c := formatted(t, usual)
	ok(t, f.Create("/f"), f.Write("/f", 0, "abc"))
	readOften(c, usual, -1, 2001)
	checkTick(t, f, c, true)
	checkRested(t, c)
	checkTick(t, f, c, false)
	checkGeneration(t, c, usual, someFile("abc"))
	// A worn block stays as it is, so nothing is done about it once nothing lies there.
	b := usedBlock(f)
	c.Wear(b)
	readOften(c, usual, b, 2001)
	checkTick(t, f, c, true)
	checkTick(t, f, c, false)
	readOften(c, usual, b, 2001)
	checkTick(t, f, c, false)
	checkRead(t, mounted(t, c, usual), "/f", 0, 9, "abc", api.OK)
}

// TestTickOfUnequalErases: data that lies still is moved.
func TestTickOfUnequalErases(t *testing.T) {
	f, c := formatted(t, usual)
	ok(t, f.Create("/f"), f.Write("/f", 0, "abc"), f.Unmount())
	f = mounted(t, c, usual)
	free := -1
	for b, block := range f.Blocks() {
		if !block.Used {
			free = b
		}
	}
	least := wear.Block{Erases: 1 << 30}
	for _, block := range f.Blocks() {
		if block.Used && block.Erases < least.Erases {
			least = block
		}
	}
	for {
		if erases, _ := c.Counts(free); erases == least.Erases+64 {
			break
		}
		c.Erase(free)
	}
	checkTick(t, f, c, false)
	c.Erase(free)
	checkTick(t, f, c, true)
	checkRead(t, mounted(t, c, usual), "/f", 0, 9, "abc", api.OK)
}

// TestTicksLevel: if it is called often enough, blocks are erased about equally often.
func TestTicksLevel(t *testing.T) {
	f, c := formatted(t, usual)
	ok(t, f.Create("/f"), f.Write("/f", 0, "abc"))
	for range 3000 {
		ok(t, f.Write("/f", 0, "abc"), f.Write("/f", 0, "abd"), f.Sync(), f.Tick())
	}
	least, most := 1<<30, 0
	for b := range usual.Blocks {
		erases, _ := c.Counts(b)
		least, most = min(least, erases), max(most, erases)
	}
	if most-least > 70 {
		t.Errorf("blocks were erased %d to %d times", least, most)
	}
}

func TestUnmount(t *testing.T) {
	f, c := formatted(t, usual)
	ok(t, f.Create("/f"), f.Write("/f", 0, "abc"))
	gen := checkGeneration(t, c, usual, newModel().pairs(), "journal")
	ok(t, f.Unmount())
	if after := checkGeneration(t, c, usual, someFile("abc")); after <= gen {
		t.Errorf("generation %d follows %d", after, gen)
	}
	changes := c.Changes()
	for _, name := range []string{"mkdir", "create", "link", "unlink", "rmdir", "rename", "write", "truncate", "read", "readdir", "stat", "sync", "fsync", "tick", "unmount"} {
		for _, path := range []string{"/f", "/", "x"} {
			if got := (call{name: name, path: path, offset: -1}).on(f); got != (told{err: api.ErrClosed}) {
				t.Errorf("%s is %v", name, got)
			}
		}
	}
	checkUsage(t, f, 4, planOf(t, usual).Capacity())
	checkUsed(t, f, 4)
	c.Cut(1, 0)
	c.Erase(usual.Blocks - 1)
	check(t, "Sync", f.Sync(), api.ErrClosed)
	if c.Changes() != changes+1 {
		t.Error("an unmounted file system changes the chip")
	}
}

// TestUnmountOfNothingNew: it writes a new generation all the same.
func TestUnmountOfNothingNew(t *testing.T) {
	_, c := laid(t, someFile("abc"))
	f := mounted(t, c, usual)
	ok(t, f.Unmount())
	if gen := checkGeneration(t, c, usual, someFile("abc")); gen <= 5 {
		t.Errorf("the generation is %d", gen)
	}
}

// TestSyncOfNothingNew makes no change, however often.
func TestSyncOfNothingNew(t *testing.T) {
	f, c := formatted(t, usual)
	quiet := func() {
		t.Helper()
		changes := c.Changes()
		ok(t, f.Sync(), f.Fsync("/"), f.Sync())
		if c.Changes() != changes {
			t.Error("a Sync of nothing new changed the chip")
		}
	}
	quiet()
	ok(t, f.Create("/f"))
	changes := c.Changes()
	ok(t, f.Fsync("/f"))
	if c.Changes() == changes {
		t.Error("a Sync wrote nothing")
	}
	quiet()
	check(t, "Create", f.Create("/f"), api.ErrExists)
	ok(t, f.Write("/f", 5, ""), f.Truncate("/f", 0), f.Rename("/f", "/f"))
	checkRead(t, f, "/f", 0, 9, "", api.OK)
	quiet()
	for range 30 { // the journal is full again and again
		ok(t, f.Write("/f", 0, "x"), f.Sync())
		quiet()
		ok(t, f.Write("/f", 0, "y"), f.Sync())
		quiet()
	}
	f = mounted(t, c, usual)
	quiet()
}

func TestBlocks(t *testing.T) {
	f, c := formatted(t, usual)
	ok(t, f.Create("/f"), f.Sync())
	for b, block := range f.Blocks() {
		erases, reads := c.Counts(b)
		if block.Erases != erases || block.Reads != reads || block.Worn {
			t.Errorf("block %d is %v", b, block)
		}
	}
	checkUsed(t, f, 5)
}
