package fs_test

import (
	"fmt"
	"math/rand"
	"strings"
	"testing"

	"chert/api"
	"chert/fs"
	"chert/nand"
)

// TestCapacity: so many nodes always fit, even the longest that there are.
func TestCapacity(t *testing.T) {
	random := rand.New(rand.NewSource(1))
	for _, g := range geometries {
		f, c := formatted(t, g)
		capacity := planOf(t, g).Capacity()
		data := make([]byte, 256)
		for i := 0; ; i++ {
			n, _ := f.Usage()
			if n+2 > capacity {
				break
			}
			path := fmt.Sprintf("/a name of so many bytes as %05d", i)
			ok(t, f.Create(path))
			random.Read(data)
			ok(t, f.Write(path, 8000, string(data[:min(capacity-n-2, 3)*64])))
			if random.Intn(3) == 0 {
				ok(t, f.Sync())
			}
		}
		n, most := f.Usage()
		if n+1 < capacity || n > capacity || most != capacity {
			t.Fatalf("%d nodes of %d", n, most)
		}
		shown := shownBy(t, f)
		ok(t, f.Unmount())
		if f = mounted(t, c, g); shownBy(t, f) != shown {
			t.Fatal("something is lost")
		}
	}
}

// TestFullChip: what does not fit changes nothing, and what does goes on.
func TestFullChip(t *testing.T) {
	for seed, g := range geometries {
		random := rand.New(rand.NewSource(int64(seed)))
		f, c := formatted(t, g)
		m, plan := newModel(), planOf(t, g)
		path := "/"
		for refused := 0; refused < 20; {
			if random.Intn(4) == 0 {
				path = fmt.Sprint("/", random.Intn(100))
				m = m.checkCall(t, plan, f, call{name: "create", path: path})
			}
			w := call{name: "write", path: path, offset: random.Intn(7900), data: anyData(random, 256)}
			if want, _ := m.expect(plan, w); want.err == api.ErrNoSpace {
				refused++
			}
			m = m.checkCall(t, plan, f, w)
			if refused > 0 && random.Intn(4) == 0 {
				m = m.checkCall(t, plan, f, call{name: "truncate", path: path, size: random.Intn(8000)})
				m = m.checkCall(t, plan, f, call{name: "rename", path: path, to: path + strings.Repeat("x", random.Intn(30))})
			}
		}
		checkShown(t, f, m)
		ok(t, f.Sync())
		f = mounted(t, c, g)
		checkShown(t, f, m)
	}
}

func wearAll(c *nand.Chip, g api.Geometry) {
	for b := range g.Blocks {
		c.Wear(b)
	}
}

// TestWornChip: nothing can be written any more, and what was can be read.
func TestWornChip(t *testing.T) {
	f, c := formatted(t, usual)
	ok(t, f.Create("/f"), f.Write("/f", 0, "abc"), f.Unmount())
	f = mounted(t, c, usual)
	wearAll(c, usual)
	changes := c.Changes()
	ok(t, f.Sync(), f.Fsync("/f"), f.Tick())
	check(t, "Create", f.Create("/g"), api.ErrNoSpace)
	check(t, "Write", f.Write("/f", 1, "x"), api.ErrNoSpace)
	check(t, "Unlink", f.Unlink("/f"), api.ErrNoSpace)
	check(t, "Write of nothing new", f.Write("/f", 1, "b"), api.OK)
	check(t, "Create of what exists", f.Create("/f"), api.ErrExists)
	check(t, "Unmount", f.Unmount(), api.ErrFull)
	ok(t, f.Sync())
	checkRead(t, f, "/f", 0, 9, "abc", api.OK)
	checkNames(t, f, "/", "f")
	if c.Changes() != changes {
		t.Error("a worn chip was changed")
	}
	f = mounted(t, c, usual)
	checkRead(t, f, "/f", 0, 9, "abc", api.OK)
	check(t, "Create", f.Create("/g"), api.ErrNoSpace)
}

// TestWornWithSomethingHeld: it is there as long as the power is on, but it can't be made to last.
func TestWornWithSomethingHeld(t *testing.T) {
	f, c := formatted(t, usual)
	ok(t, f.Create("/f"), f.Write("/f", 0, "abc"), f.Sync(), f.Create("/g"), f.Write("/g", 0, "held"))
	wearAll(c, usual)
	for range 2 {
		check(t, "Sync", f.Sync(), api.ErrFull)
		check(t, "Fsync", f.Fsync("/f"), api.ErrFull)
		check(t, "Fsync", f.Fsync("/h"), api.ErrMissing)
		check(t, "Unmount", f.Unmount(), api.ErrFull)
		check(t, "Create", f.Create("/h"), api.ErrNoSpace)
		ok(t, f.Tick())
		checkRead(t, f, "/f", 0, 9, "abc", api.OK)
		checkRead(t, f, "/g", 0, 9, "held", api.OK)
		checkNames(t, f, "/", "f", "g")
	}
	// The journal can't become a new generation, but it can be read.
	for range 2 {
		f = mounted(t, c, usual)
		checkNames(t, f, "/", "f")
		checkRead(t, f, "/f", 0, 9, "abc", api.OK)
		check(t, "Write", f.Write("/f", 0, "x"), api.ErrNoSpace)
		check(t, "Unmount", f.Unmount(), api.ErrFull)
		ok(t, f.Sync(), f.Tick())
		checkRead(t, f, "/f", 0, 9, "abc", api.OK)
	}
}

// TestWornChipWithOneMaster: a journal can follow, even if no new generation can.
func TestWornChipWithOneMaster(t *testing.T) {
	v, c := laid(t, someFile("abc"))
	b, _ := find(t, c, usual, 1)
	ok(t, v.Unmap(1))
	wearFree(c, v.Blocks(), 2)
	c.Wear(b)
	f := mounted(t, c, usual)
	ok(t, f.Create("/g"), f.Write("/f", 0, "xyz"), f.Sync())
	checkRead(t, f, "/f", 0, 9, "xyz", api.OK)
	f = mounted(t, c, usual)
	checkNames(t, f, "/", "f", "g")
	checkRead(t, f, "/f", 0, 9, "xyz", api.OK)
	check(t, "Create", f.Create("/h"), api.ErrNoSpace)
}

// TestWornBlocksOfTheJournal: everything is written elsewhere, with what the journal held.
func TestWornBlocksOfTheJournal(t *testing.T) {
	for _, next := range []call{{name: "sync"}, {name: "write", path: "/f", offset: 300, data: strings.Repeat("more", 60)}} {
		f, c := formatted(t, usual)
		used := f.Blocks()
		ok(t, f.Create("/f"), f.Write("/f", 0, "abc"), f.Sync(), f.Write("/f", 100, "def"))
		for b, block := range f.Blocks() {
			if block.Used && !used[b].Used {
				c.Wear(b)
			}
		}
		ok(t, next.on(f).err)
		ok(t, f.Create("/g"))
		checkFileOf(t, f, "abc"+strings.Repeat("\x00", 97)+"def")
		ok(t, f.Sync())
		checkFileOf(t, mounted(t, c, usual), "abc"+strings.Repeat("\x00", 97)+"def")
	}
}

// checkFileOf: /f begins with these bytes.
func checkFileOf(t *testing.T, f *fs.FS, data string) {
	t.Helper()
	checkRead(t, f, "/f", 0, len(data), data, api.OK)
}

// TestWornBlocksAreAvoided: as long as there are enough others, nothing is refused.
func TestWornBlocksAreAvoided(t *testing.T) {
	f, c := formatted(t, usual)
	for b := range usual.Blocks {
		if b%3 == 0 {
			c.Wear(b)
		}
	}
	ok(t, f.Create("/f"))
	for i := range 100 {
		ok(t, f.Write("/f", i, "some bytes"), f.Sync())
		if i%30 == 0 {
			ok(t, f.Unmount())
			f = mounted(t, c, usual)
		}
	}
}

// TestWhatIsRefusedWritesNothing: once it is known which blocks are worn, nothing wears on the others in vain.
func TestWhatIsRefusedWritesNothing(t *testing.T) {
	_, c := laid(t, someFile("abc"))
	f := mounted(t, c, usual)
	wearFree(c, f.Blocks(), 2)
	check(t, "Unmount", f.Unmount(), api.ErrFull)
	checkUsed(t, f, 4)
	changes := c.Changes()
	check(t, "Unmount", f.Unmount(), api.ErrFull)
	if c.Changes() != changes {
		t.Errorf("%d changes for nothing", c.Changes()-changes)
	}
	ok(t, f.Create("/g"), f.Sync())
	checkNames(t, mounted(t, c, usual), "/", "f", "g")
}

// TestUnmountSyncsFirst: what was done lasts even if no new generation can be written.
func TestUnmountSyncsFirst(t *testing.T) {
	_, c := laid(t, someFile("abc"))
	f := mounted(t, c, usual)
	wearFree(c, f.Blocks(), 2)
	ok(t, f.Create("/g"))
	check(t, "Unmount", f.Unmount(), api.ErrFull)
	checkNames(t, mounted(t, c, usual), "/", "f", "g")
}

// TestJournal: it takes as many pages as its blocks have, and then a new generation begins.
func TestJournal(t *testing.T) {
	f, c := formatted(t, usual)
	ok(t, f.Create("/f"), f.Unmount())
	f = mounted(t, c, usual)
	for round := range 3 {
		for i := range 10 {
			ok(t, f.Write("/f", 0, string(rune('a'+i))), f.Sync())
			checkUsed(t, f, 5+i/5)
		}
		ok(t, f.Write("/f", 0, "z"))
		checkUsed(t, f, 4)
		if gen := checkGeneration(t, c, usual, someFile("z")); gen != 3+round {
			t.Errorf("the generation is %d", gen)
		}
	}
}

// TestJournalStaysInItsBlocks: whatever is held of it.
func TestJournalStaysInItsBlocks(t *testing.T) {
	random := rand.New(rand.NewSource(3))
	f, _ := formatted(t, usual)
	ok(t, f.Create("/f"))
	for range 3000 {
		ok(t, f.Write("/f", random.Intn(200), anyData(random, random.Intn(200))))
		if random.Intn(6) == 0 {
			ok(t, f.Sync())
		}
		used := 0
		for _, block := range f.Blocks() {
			if block.Used {
				used++
			}
		}
		if used > 6 {
			t.Fatalf("%d blocks are used", used)
		}
	}
}

// TestPiecesGoWithTheInode: a great file takes no more of the journal than a small one when it goes.
func TestPiecesGoWithTheInode(t *testing.T) {
	g := geometries[3]
	f, c := formatted(t, g)
	ok(t, f.Create("/f"), f.Create("/g"))
	for at := 0; at < 8192; at += 256 {
		ok(t, f.Write("/f", at, strings.Repeat("x", 256)), f.Write("/g", at, strings.Repeat("x", 256)))
	}
	ok(t, f.Unmount())
	f = mounted(t, c, g)
	changes := c.Changes()
	ok(t, f.Truncate("/f", 1), f.Unlink("/g"), f.Sync())
	if n := c.Changes() - changes; n > 3 {
		t.Errorf("%d changes", n)
	}
	checkRead(t, mounted(t, c, g), "/f", 0, 9, "x", api.OK)
}
